"""The least row of a door, and dayrows that are bare."""

from bestunmoved.dayarcs import need_dayrows, sight_delays
from bestunmoved.dayjudge import day_costs, day_kept, need_day_kept
from bestunmoved.daykinds import come_at
from bestunmoved.helpers import need, need_below
from bestunmoved.judging import falling_ring
from bestunmoved.kinds import is_order


def bound_ahead(dayhouse, door, other):
    """The hour below which an answer of the door makes its deed surely ahead of other, of an unlike door; or None."""
    later, hour = other
    bounds = []
    delays = sight_delays(dayhouse, door, later)
    if delays is not None:
        bounds.append(come_at(delays, hour))
    duty = dayhouse[4][door][later]
    if duty is not None:
        bounds.append(hour - duty)
    return max(bounds, default=None)


def last_answered(row, bound):
    """The greatest hour of which the answer, by the row of waits, is below the bound."""
    lasts = []
    for rest, wait in enumerate(row):
        most = bound - 1 - wait
        lasts.append(most - (most - rest) % len(row))
    return max(lasts)


def lasts_behind(dayhouse, dayrows, door, hour):
    """For each other door its last hour from which hours lead, each surely ahead of the next one, to this hour.

    The list has the hour itself for the door, None for those that do not lead there. The others are kept.
    """
    lasts = [None for _ in dayrows]
    lasts[door] = hour
    for _ in dayrows:
        for one, row in enumerate(dayrows):
            for later, last in enumerate(list(lasts)):
                bound = None
                if one != door and one != later and last is not None:
                    bound = bound_ahead(dayhouse, one, (later, last))
                if bound is not None:
                    most = last_answered(row, bound)
                    lasts[one] = most if lasts[one] is None else max(lasts[one], most)
    return lasts


def least_at(dayhouse, dayrows, door, hour):
    """The least wait of the door at the hour, the others, which are kept, as they are."""
    bounds = [hour]
    for later, last in enumerate(lasts_behind(dayhouse, dayrows, door, hour)):
        bound = None
        if later != door and last is not None:
            bound = bound_ahead(dayhouse, door, (later, last))
        if bound is not None:
            bounds.append(bound)
    return max(bounds) - hour


def row_of(dayhouse, dayrows, door):
    """The least row of the door, the others, which are kept, as they are."""
    return tuple([least_at(dayhouse, dayrows, door, hour) for hour in range(dayhouse[0])])


def costs_of_others(dayhouse, dayrows, door):
    """The costs of the dayrows without those that lead to the door; so no ring goes through it."""
    day = dayhouse[0]
    costs = []
    for row in day_costs(dayhouse, dayrows):
        costs.append([None if node // day == door else cost for node, cost in enumerate(row)])
    return costs


def need_order(dayhouse, order):
    """The parameter order has to be an order of all doors."""
    need(is_order(len(dayhouse[3]), order), "order")


def least_row(dayhouse, dayrows, door):
    """The least row of the door, the others as they are; None if they are barred by themselves."""
    need_dayrows(dayhouse, dayrows)
    need_below(len(dayhouse[3]), door, "door")
    if falling_ring(costs_of_others(dayhouse, dayrows, door)) is not None:
        return None
    return row_of(dayhouse, dayrows, door)


def lowered_rows(dayhouse, dayrows, order):
    """The dayrows in which each door, in this order, has got its least row."""
    need_dayrows(dayhouse, dayrows)
    need_order(dayhouse, order)
    need_day_kept(dayhouse, dayrows)
    now = list(dayrows)
    for door in order:
        now[door] = row_of(dayhouse, now, door)
    return tuple(now)


def rows_bare(dayhouse, dayrows):
    """Whether the dayrows are kept and no wait of an hour alone can be less.

    A barring ring has a door once; so the waits of its other hours make no difference to that of an hour.
    """
    if not day_kept(dayhouse, dayrows):
        return False
    return all([row_of(dayhouse, dayrows, door) == row for door, row in enumerate(dayrows)])
