"""How much longer ways may be, with the waits still kept."""

from bestunmoved.helpers import need, need_below, need_numbers
from bestunmoved.housechanges import handed_on
from bestunmoved.judging import falling_ring, need_kept, waiting_costs
from bestunmoved.kinds import common_books, is_below
from bestunmoved.rings import is_ring, ring_steps
from bestunmoved.sights import far_pairs, sight_pairs
from bestunmoved.tables import table_of


def grown(table, steps, units):
    """The table with the entries of these steps, pairs of doors, greater by units."""
    rows = [list(row) for row in table]
    for door, other in steps:
        rows[door][other] = rows[door][other] + units
    return rows


def most_growth(table, steps, waits):
    """The greatest number by which the entries of these steps may grow, the kept waits staying so; None if any."""
    low = 0
    # A ring with such a step bars the waits as soon as that grows by more than all that could be its slack.
    high = sum(waits) + sum([abs(entry) for row in table for entry in row if entry is not None]) + 1
    if falling_ring(waiting_costs(grown(table, steps, high), waits)) is None:
        return None
    while high - low > 1:
        middle = (low + high) // 2
        if falling_ring(waiting_costs(grown(table, steps, middle), waits)) is None:
            low = middle
        else:
            high = middle
    return low


def later_by(house, waits):
    """The greatest number by which all ways between unlike places may be longer together; None if any."""
    need_numbers(len(house[2]), waits, "waits")
    table = table_of(house)
    need_kept(table, waits)
    return most_growth(table, far_pairs(house), waits)


def is_use(house, door, other, here, there):
    """Whether door, at there, sees other, at here."""
    looker = house[2][door]
    writer = house[2][other]
    return looker[0] == there and writer[0] == here and common_books(looker, writer) != ()


def way_room(house, waits, here, there):
    """The greatest number by which this way alone may be longer, handing on still never helping; None if any."""
    ways = house[0]
    need_numbers(len(house[2]), waits, "waits")
    need_below(len(ways), here, "here")
    need(is_below(len(ways), there) and there != here and ways[here][there] is not None, "there")
    table = table_of(house)
    need_kept(table, waits)
    steps = [pair for pair in sight_pairs(house) if is_use(house, pair[0], pair[1], here, there)]
    bounds = [most_growth(table, steps, waits)]
    handed = handed_on(ways, here, there)
    if handed is not None:
        bounds.append(handed - ways[here][there])
    return min([bound for bound in bounds if bound is not None], default=None)


def uses_of(house, ring, here, there):
    """How many doors of the ring, at there, see the next one of it, at here."""
    need(is_ring(table_of(house), ring), "ring")
    need_below(len(house[0]), here, "here")
    need_below(len(house[0]), there, "there")
    return len([door for door, other in ring_steps(ring) if is_use(house, door, other, here, there)])
