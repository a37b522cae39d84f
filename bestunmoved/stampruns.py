"""Runs by waits and stamps."""

from bestunmoved.askkinds import need_news
from bestunmoved.news import is_known
from bestunmoved.standings import answers_by, beat_stamps, need_waiting, order_by, run_of


def known_ahead(asks, news, order, deed, place, moment):
    """Those ahead of the deed, in the sequence of the order, that are known at the place at the moment."""
    ahead = order[:order.index(deed)]
    return [one for one in ahead if is_known(asks, news, one, place, moment)]


def known_run(house, asks, answers, news, order):
    """The history of deeds that are answered then, each showing what stands ahead and is known at its place."""
    sequences = []
    for deed, answered in enumerate(answers):
        place = house[2][asks[deed][0]][0]
        sequences.append(known_ahead(asks, news, order, deed, place, answered))
    return run_of(house, asks, answers, sequences)


def run_by(house, grain, waits, stamps, asks, news):
    """The history by waits and stamps with these news."""
    order = order_by(beat_stamps(grain, stamps, asks), asks)
    return known_run(house, asks, answers_by(grain, waits, asks), news, order)


def need_run(house, grain, waits, stamps, asks, news):
    """All parameters of a run behind the house have to be as stated."""
    need_waiting(house, grain, waits, stamps, asks)
    need_news(house, asks, news)


def stamp_run(house, grain, waits, stamps, asks, news):
    """The history by waits and stamps with these news."""
    need_run(house, grain, waits, stamps, asks, news)
    return run_by(house, grain, waits, stamps, asks, news)
