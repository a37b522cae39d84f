"""Room for greater entries, and rings that leave none."""

from bestunmoved.helpers import least_sums, need_below, need_door_pair, need_numbers
from bestunmoved.judging import least_heights, need_kept, waiting_costs


def staying_sums(costs):
    """The least sums of costs along walks, 0 for staying at a door; no ring of costs is below 0."""
    rows = [list(row) for row in costs]
    for door in range(len(rows)):
        rows[door][door] = 0
    return least_sums(rows)


def room_with(sums, waits, door, other):
    """The room of door for an unlike other: what the walks back leave, and the wait of door."""
    back = sums[other][door]
    return None if back is None else waits[door] + back


def room_of(table, waits, door, other):
    """The greatest entry from door to an unlike other with which the waits are still kept; None if any is."""
    need_numbers(len(table), waits, "waits")
    need_door_pair(len(table), door, other)
    need_kept(table, waits)
    return room_with(staying_sums(waiting_costs(table, waits)), waits, door, other)


def room_table(table, waits):
    """The rooms of all doors for all others, 0 at the same door."""
    need_numbers(len(table), waits, "waits")
    need_kept(table, waits)
    sums = staying_sums(waiting_costs(table, waits))
    doors = range(len(table))
    rows = []
    for door in doors:
        rows.append(tuple([0 if door == other else room_with(sums, waits, door, other) for other in doors]))
    return tuple(rows)


def tight_steps(costs):
    """For each door the doors to which its cost is just suited by the least heights.

    Costs add up to 0 around a ring exactly if each of its steps is such.
    """
    heights = least_heights(costs)
    steps = []
    for door, row in enumerate(costs):
        steps.append([other for other, cost in enumerate(row)
                      if cost is not None and heights[door] - heights[other] == cost])
    return steps


def shortest_ring(steps, door):
    """A ring of fewest steps through door, as a tuple from door on; None if there is none."""
    walks = [(door,)]
    reached = {door: True}
    while len(walks) > 0:
        longer = []
        for walk in walks:
            for other in steps[walk[-1]]:
                if other == door:
                    return walk
                if other not in reached:
                    reached[other] = True
                    longer.append(walk + (other,))
        walks = longer
    return None


def tight_ring(table, waits, door):
    """Any ring with door in it and slack 0, or None."""
    need_numbers(len(table), waits, "waits")
    need_below(len(table), door, "door")
    need_kept(table, waits)
    return shortest_ring(tight_steps(waiting_costs(table, waits)), door)
