"""Stamps that suit waits."""

from bestunmoved.errors import InvalidPaper
from bestunmoved.helpers import need_numbers, need_stamps
from bestunmoved.judging import least_heights, need_kept, waiting_costs
from bestunmoved.kinds import is_integer, is_sized


def unsuited_pair(costs, heights):
    """The first pair, x times the number of doors and y added, whose cost the heights do not suit; or None."""
    for door, row in enumerate(costs):
        for other, cost in enumerate(row):
            if cost is not None and heights[door] - heights[other] > cost:
                return door * len(costs) + other
    return None


def check_heights(costs, thing):
    """Raises InvalidPaper unless thing is a tuple of integers that suit the costs."""
    if not is_sized(len(costs), thing):
        raise InvalidPaper("shape", -1)
    for door, stamp in enumerate(thing):
        if not is_integer(stamp):
            raise InvalidPaper("stamp", door)
    pair = unsuited_pair(costs, thing)
    if pair is not None:
        raise InvalidPaper("pair", pair)


def suits(table, waits, stamps):
    """Whether the stamps suit the waits."""
    need_numbers(len(table), waits, "waits")
    need_stamps(len(table), stamps)
    return unsuited_pair(waiting_costs(table, waits), stamps) is None


def least_stamps(table, waits):
    """The least of the stamps that suit the waits and are all at least 0."""
    need_numbers(len(table), waits, "waits")
    need_kept(table, waits)
    return least_heights(waiting_costs(table, waits))


def lets_stamps(table, waits, thing):
    """For each door its wait less its stamp; InvalidPaper unless thing is stamps that suit."""
    need_numbers(len(table), waits, "waits")
    check_heights(waiting_costs(table, waits), thing)
    return tuple([wait - stamp for wait, stamp in zip(waits, thing)])
