"""Waits judged at a grain."""

from bestunmoved.errors import Barred
from bestunmoved.helpers import need_grain, need_numbers
from bestunmoved.judging import falling_ring, least_heights, waiting_costs
from bestunmoved.stamps import check_heights


def coarse_costs(table, grain, waits):
    """The costs that coarse stamps suit; rings of them are below 0 exactly if they bar at the grain.

    A step of a barring ring takes a beat more than its wait less its entry. Times the number of doors, one
    less for each step, a ring is below 0 exactly if these beats add up to at most 0.
    """
    costs = []
    for row in waiting_costs(table, waits):
        costs.append([None if cost is None else len(table) * (grain * cost + 1) - 1 for cost in row])
    return costs


def need_grain_waits(table, grain, waits):
    """The parameters grain and waits have to be as stated."""
    need_grain(grain, "grain")
    need_numbers(len(table), waits, "waits")


def is_kept_at(table, grain, waits):
    """Whether the waits are kept at the grain."""
    need_grain_waits(table, grain, waits)
    return falling_ring(coarse_costs(table, grain, waits)) is None


def least_barred(table, waits):
    """The least grain at which the waits are not kept, or None."""
    need_numbers(len(table), waits, "waits")
    for grain in range(1, len(table) + 1):
        if falling_ring(coarse_costs(table, grain, waits)) is not None:
            return grain
    return None


def coarse_stamps(table, grain, waits):
    """The least of the coarse stamps that suit at the grain and are all at least 0."""
    need_grain_waits(table, grain, waits)
    costs = coarse_costs(table, grain, waits)
    ring = falling_ring(costs)
    if ring is not None:
        raise Barred(ring)
    return least_heights(costs)


def lets_coarse(table, grain, waits, thing):
    """The number of doors; InvalidPaper unless thing is coarse stamps that suit at the grain."""
    need_grain_waits(table, grain, waits)
    check_heights(coarse_costs(table, grain, waits), thing)
    return len(table)
