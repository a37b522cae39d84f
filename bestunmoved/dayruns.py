"""Runs of dayhouses by dayrows and day stamps, and those that break barred ones.

Behind its day a dayhouse has the parts of a house; so asks, news and histories are asked of these.
"""

from bestunmoved.askkinds import are_news, by_moment, is_asks
from bestunmoved.dayarcs import need_dayrows
from bestunmoved.dayhouses import longest_house
from bestunmoved.dayjudge import ring_by_day
from bestunmoved.daykinds import come_at
from bestunmoved.helpers import need
from bestunmoved.kinds import is_integers, is_sized
from bestunmoved.orders import order_or_ring
from bestunmoved.spoils import unlike_deeds
from bestunmoved.stampruns import known_run
from bestunmoved.standings import ahead_lists, order_by, run_of


def is_day_asks(dayhouse, thing):
    """Whether thing is asks of the dayhouse."""
    return is_asks(dayhouse[1:], thing)


def need_day_asks(dayhouse, asks):
    """The parameter asks has to be asks of the dayhouse."""
    need(is_day_asks(dayhouse, asks), "asks")


def need_day_news(dayhouse, asks, news):
    """The parameter news has to be news of the asks."""
    need(are_news(dayhouse[1:], asks, news), "news")


def need_day_stamps(dayhouse, stamps):
    """The parameter stamps has to be day stamps, suiting or not."""
    fine = is_sized(len(dayhouse[3]), stamps) and all([is_integers(dayhouse[0], row) for row in stamps])
    need(fine, "stamps")


def is_day_news(dayhouse, asks, thing):
    """Whether thing is news of the asks."""
    need_day_asks(dayhouse, asks)
    return are_news(dayhouse[1:], asks, thing)


def taken(ways, hour):
    """How long letters given at the hour take by these ways at most, None without a way."""
    return tuple([None if delays is None else delays[hour % len(delays)] for delays in ways])


def latest_by_day(dayhouse, asks):
    """The news in which each letter takes its hour's delay."""
    return tuple([taken(dayhouse[1][dayhouse[3][door][0]], hour) for door, hour in asks])


def latest_day_news(dayhouse, asks):
    """The news in which each letter takes its hour's delay."""
    need_day_asks(dayhouse, asks)
    return latest_by_day(dayhouse, asks)


def late_day_letters(dayhouse, asks, news):
    """All pairs (deed, place) where the deed's record takes longer than its hour's delay, ascending."""
    need_day_asks(dayhouse, asks)
    need_day_news(dayhouse, asks, news)
    late = []
    for deed, latest in enumerate(latest_by_day(dayhouse, asks)):
        for place, entry in enumerate(news[deed]):
            if entry is not None and entry > latest[place]:
                late.append((deed, place))
    return tuple(late)


def day_answers(dayrows, asks):
    """When each deed is answered, as a list."""
    return [come_at(dayrows[door], hour) for door, hour in asks]


def day_order(dayhouse, stamps, asks):
    """The order of all deeds by their stamps, then door, then number."""
    many = len(dayhouse[3])
    return order_by([hour * many + stamps[door][hour % dayhouse[0]] for door, hour in asks], asks)


def run_by_day(dayhouse, dayrows, stamps, asks, news):
    """The history by these dayrows and stamps."""
    return known_run(dayhouse[1:], asks, day_answers(dayrows, asks), news, day_order(dayhouse, stamps, asks))


def need_day_run(dayhouse, dayrows, stamps, asks, news):
    """All parameters of a run behind the dayhouse have to be as stated."""
    need_dayrows(dayhouse, dayrows)
    need_day_stamps(dayhouse, stamps)
    need_day_asks(dayhouse, asks)
    need_day_news(dayhouse, asks, news)


def day_run(dayhouse, dayrows, stamps, asks, news):
    """The history by these dayrows and stamps."""
    need_day_run(dayhouse, dayrows, stamps, asks, news)
    return run_by_day(dayhouse, dayrows, stamps, asks, news)


def day_spoilt(dayhouse, dayrows, stamps, asks, news):
    """The lot of the deeds whose answers in the run are spoilt."""
    need_day_run(dayhouse, dayrows, stamps, asks, news)
    order = day_order(dayhouse, stamps, asks)
    due = run_of(dayhouse[1:], asks, day_answers(dayrows, asks), ahead_lists(order))
    return unlike_deeds(due, run_by_day(dayhouse, dayrows, stamps, asks, news))


def day_breaking(dayhouse, dayrows, stamps):
    """Any triple (asks, history, ring) that breaks the dayrows, or None if they are kept."""
    need_dayrows(dayhouse, dayrows)
    need_day_stamps(dayhouse, stamps)
    hours = ring_by_day(dayhouse, dayrows)
    if hours is None:
        return None
    asks = by_moment(hours)
    history = run_by_day(dayhouse, dayrows, stamps, asks, latest_by_day(dayhouse, asks))
    return (asks, history, order_or_ring(longest_house(dayhouse), 1, history)[1])
