"""The least wait of a door, and waits that are bare."""

from bestunmoved.helpers import need, need_below, need_numbers
from bestunmoved.judging import falling_ring, is_kept, need_kept, waiting_costs
from bestunmoved.kinds import is_order
from bestunmoved.rooms import staying_sums


def freed_costs(table, waits, door):
    """The costs of the waits, with a wait of 0 for door."""
    freed = list(waits)
    freed[door] = 0
    return waiting_costs(table, freed)


def costs_without(costs, door):
    """The costs among the other doors alone."""
    rows = []
    for at, row in enumerate(costs):
        rows.append([None if door == at or door == other else cost for other, cost in enumerate(row)])
    return rows


def least_of(table, waits, door):
    """The least wait of door, or None if a ring of the others bars them."""
    costs = freed_costs(table, waits, door)
    others = costs_without(costs, door)
    if falling_ring(others) is not None:
        return None
    sums = staying_sums(others)
    least = 0
    for start, out in enumerate(costs[door]):
        for end, row in enumerate(costs):
            walk = sums[start][end]
            if out is not None and walk is not None and row[door] is not None:
                least = max(least, -(out + walk + row[door]))
    return least


def least_wait(table, waits, door):
    """The least wait of door with which the waits are kept, the other ones staying; None without one."""
    need_numbers(len(table), waits, "waits")
    need_below(len(table), door, "door")
    return least_of(table, waits, door)


def lowered(table, waits, order):
    """The waits after each door of order, in turn, has got its least wait."""
    need_numbers(len(table), waits, "waits")
    need(is_order(len(table), order), "order")
    need_kept(table, waits)
    now = list(waits)
    for door in order:
        now[door] = least_of(table, now, door)
    return tuple(now)


def is_bare(table, waits):
    """Whether the waits are kept and none of them can be made less."""
    if not is_kept(table, waits):
        return False
    return all([least_of(table, waits, door) == wait for door, wait in enumerate(waits)])
