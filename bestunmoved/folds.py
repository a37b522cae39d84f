"""Cuts: up to which stamp a place knows all that its answers will show; and what can be folded there."""

from bestunmoved.askkinds import need_news
from bestunmoved.helpers import need, need_below
from bestunmoved.kinds import is_below, is_number
from bestunmoved.news import is_known
from bestunmoved.sights import doors_at, seen_at
from bestunmoved.stampruns import known_ahead
from bestunmoved.standings import answers_by, beat_stamps, need_waiting, order_by


def lookers_at(house, place):
    """The doors at the place that look at a book."""
    return [door for door in doors_at(house, place) if house[2][door][2] != ()]


def cut_by(house, grain, waits, stamps, asks, place, moment):
    """The cut of the place at the moment, or None."""
    lookers = lookers_at(house, place)
    if len(lookers) == 0:
        return None
    cuts = [grain * stamps[door] + moment + 1 for door in lookers]
    for door in seen_at(house, place):
        cuts.append(grain * stamps[door] + moment + 1 - grain * house[0][house[2][door][0]][place])
    beats = beat_stamps(grain, stamps, asks)
    answers = answers_by(grain, waits, asks)
    for (door, asked), beat, answered in zip(asks, beats, answers):
        if door in lookers and asked <= moment and answered > moment:
            cuts.append(beat)
    return min(cuts)


def need_place_moment(house, place, moment):
    """The parameters place and moment have to be as stated."""
    need_below(len(house[0]), place, "place")
    need(is_number(moment), "moment")


def cut_of(house, grain, waits, stamps, asks, place, moment):
    """The cut of the place at the moment; None if no door there looks at a book."""
    need_waiting(house, grain, waits, stamps, asks)
    need_place_moment(house, place, moment)
    return cut_by(house, grain, waits, stamps, asks, place, moment)


def writing(house, asks, deeds, book):
    """Those of the deeds that write the book, as a list."""
    return [deed for deed in deeds if book in house[2][asks[deed][0]][1]]


def fold_by(house, grain, waits, stamps, asks, news, place, moment):
    """The pair (folded, kept) of what is known at the place at the moment."""
    cut = cut_by(house, grain, waits, stamps, asks, place, moment)
    seen = seen_at(house, place)
    beats = beat_stamps(grain, stamps, asks)
    known = [deed for deed in order_by(beats, asks)
             if asks[deed][0] in seen and is_known(asks, news, deed, place, moment)]
    below = [deed for deed in known if beats[deed] < cut]
    folded = tuple([tuple(writing(house, asks, below, book)) for book in range(len(house[1]))])
    return (folded, tuple(sorted([deed for deed in known if beats[deed] >= cut])))


def fold_of(house, grain, waits, stamps, asks, news, place, moment):
    """The pair (folded, kept) of what is known at the place at the moment and some door there sees."""
    need_waiting(house, grain, waits, stamps, asks)
    need_news(house, asks, news)
    need_place_moment(house, place, moment)
    return fold_by(house, grain, waits, stamps, asks, news, place, moment)


def is_shown_later(house, answers, asks, place, moment, deed):
    """Whether the deed is one of a door at the place that looks at a book, answered after the moment."""
    return is_below(len(asks), deed) and asks[deed][0] in lookers_at(house, place) and answers[deed] > moment


def shown_from(house, grain, waits, stamps, asks, news, place, moment, deed):
    """What the deed shows if put together from what is folded at the moment and what comes behind."""
    need_waiting(house, grain, waits, stamps, asks)
    need_news(house, asks, news)
    need_place_moment(house, place, moment)
    answers = answers_by(grain, waits, asks)
    need(is_shown_later(house, answers, asks, place, moment, deed), "deed")
    folded = fold_by(house, grain, waits, stamps, asks, news, place, moment)[0]
    cut = cut_by(house, grain, waits, stamps, asks, place, moment)
    beats = beat_stamps(grain, stamps, asks)
    ahead = known_ahead(asks, news, order_by(beats, asks), deed, place, answers[deed])
    behind = [one for one in ahead if beats[one] >= cut]
    shown = []
    for book in house[2][asks[deed][0]][2]:
        deeds = list(folded[book]) + writing(house, asks, behind, book)
        shown.append(tuple(deeds if house[1][book] == "row" else sorted(deeds)))
    return tuple(shown)
