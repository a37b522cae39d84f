"""Whether waits are kept; and costs between doors, of which waits, stamps and grains are all judged.

Costs are a list of rows like a table, None also from a door to itself. From x to y stands how much the
height of x may at most be above that of y. Heights that suit exist exactly if no ring of costs is below 0.
"""

from bestunmoved.errors import Barred
from bestunmoved.helpers import need_numbers


def waiting_costs(table, waits):
    """The costs of the waits: from each door to each unlike one its wait less the entry."""
    costs = []
    for door, row in enumerate(table):
        steps = [None if entry is None else waits[door] - entry for entry in row]
        steps[door] = None
        costs.append(steps)
    return costs


def eased(costs, depths, befores):
    """Lowers the depths (None: none yet) once along all costs; returns a door whose depth fell, or None."""
    fallen = None
    for door, row in enumerate(costs):
        for other, cost in enumerate(row):
            if cost is None or depths[door] is None:
                continue
            if depths[other] is None or depths[door] + cost < depths[other]:
                depths[other] = depths[door] + cost
                befores[other] = door
                fallen = other
    return fallen


def ring_behind(befores, door):
    """The ring into which going back from door leads, in the sequence in which it is gone forward."""
    start = door
    for _ in befores:
        start = befores[start]
    ring = [start]
    while befores[ring[-1]] != start:
        ring.append(befores[ring[-1]])
    return tuple(ring[::-1])


def falling_ring(costs):
    """Any ring of doors of which the costs add up to less than 0, or None."""
    depths = [0 for _ in costs]
    befores = [None for _ in costs]
    fallen = None
    for _ in costs:
        fallen = eased(costs, depths, befores)
        if fallen is None:
            return None
    # A depth that still falls after as many rounds as there are doors was lowered by a ring.
    return ring_behind(befores, fallen)


def is_raised(costs, heights):
    """Raises the heights once along all costs; whether one of them rose."""
    rose = False
    for door, row in enumerate(costs):
        for other, cost in enumerate(row):
            if cost is not None and heights[door] - cost > heights[other]:
                heights[other] = heights[door] - cost
                rose = True
    return rose


def least_heights(costs):
    """The least heights that suit the costs and are all at least 0; no ring of costs is below 0."""
    heights = [0 for _ in costs]
    while is_raised(costs, heights):
        pass
    return tuple(heights)


def need_kept(table, waits):
    """Raises Barred with a ring that bars the waits, if there is one."""
    ring = falling_ring(waiting_costs(table, waits))
    if ring is not None:
        raise Barred(ring)


def barring_doors(table, waits):
    """Any ring of the table that bars the waits, or None if they are kept."""
    need_numbers(len(table), waits, "waits")
    return falling_ring(waiting_costs(table, waits))


def is_kept(table, waits):
    """Whether the waits are kept."""
    return barring_doors(table, waits) is None
