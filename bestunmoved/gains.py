"""Gains of tables with waits at outer doors, and tables and gains linked."""

from bestunmoved.helpers import as_rows, least_sums, need, need_full_lot, need_numbers, rows_among
from bestunmoved.housechanges import is_spans
from bestunmoved.judging import falling_ring, waiting_costs
from bestunmoved.kinds import is_integer, is_lot, is_sized
from bestunmoved.partedhouses import blocks_of
from bestunmoved.rooms import staying_sums
from bestunmoved.tables import is_table


def is_gains_row(size, thing):
    """Whether thing is a tuple of size entries."""
    return is_sized(size, thing) and all([entry is None or is_integer(entry) for entry in thing])


def is_gains(size, thing):
    """Whether thing is None or a tuple of size rows of size entries."""
    if thing is None:
        return True
    return is_sized(size, thing) and all([is_gains_row(size, row) for row in thing])


def is_outer(many, thing):
    """Whether thing is a lot of many doors, and not ()."""
    return is_lot(many, thing) and len(thing) > 0


def gain_with(sums, waits, begin, end):
    """The gain from begin to end: what the cheapest walk leaves, less the wait of its end."""
    return None if sums[begin][end] is None else -sums[begin][end] - waits[end]


def gains_of(table, waits, outer):
    """The gains of the waits at the outer doors; None if the waits are not kept."""
    need_numbers(len(table), waits, "waits")
    need(is_outer(len(table), outer), "outer")
    costs = waiting_costs(table, waits)
    if falling_ring(costs) is not None:
        return None
    sums = staying_sums(costs)
    return tuple([tuple([gain_with(sums, waits, begin, end) for end in outer]) for begin in outer])


def are_links(rows, columns, thing):
    """Whether thing is so many rows of so many duties."""
    return is_sized(rows, thing) and all([is_spans(columns, row) for row in thing])


def need_links(one, other, there, back):
    """The parameters there and back have to be the duties between so many outer doors of the one and the other."""
    need(are_links(one, other, there), "there")
    need(are_links(other, one, back), "back")


def put_links(rows, begins, ends, links):
    """Puts into the rows (lists), from each of the begins to each of the ends, the link with a minus."""
    for begin, row in zip(begins, links):
        for end, duty in zip(ends, row):
            rows[begin][end] = None if duty is None else -duty


def linked_tables(table, other, outer, far, there, back):
    """The table of both, the doors of other behind, with the duties there and back between their outer doors."""
    need(is_table(other), "other")
    need(is_outer(len(table), outer), "outer")
    need(is_outer(len(other), far), "far")
    need_links(len(outer), len(far), there, back)
    rows = [list(row) for row in blocks_of(table, other, None)]
    moved = [door + len(table) for door in far]
    put_links(rows, outer, moved, there)
    put_links(rows, moved, outer, back)
    return as_rows(rows)


def path_costs(gains, other, there, back):
    """What each step of a path costs: a gain with a minus, or a duty. Begins are nodes ahead of all ends."""
    many = len(gains) + len(other)
    costs = []
    for row in blocks_of(gains, other, None):
        costs.append([None] * many + [None if gain is None else -gain for gain in row])
    for row in there:
        costs.append([None] * len(gains) + list(row) + [None] * many)
    for row in back:
        costs.append(list(row) + [None] * len(other) + [None] * many)
    return costs


def linked_gains(gains, other, there, back):
    """The greatest worths of paths, at the outer doors of the one, then of the other; None if some path bars."""
    if gains is None or other is None:
        return None
    need_links(len(gains), len(other), there, back)
    costs = path_costs(gains, other, there, back)
    if falling_ring(costs) is not None:
        return None
    many = len(gains) + len(other)
    sums = [row[many:] for row in least_sums(costs)[:many]]
    return tuple([tuple([None if total is None else -total for total in row]) for row in sums])


def kept_gains(gains, lot):
    """The rows and columns of lot; None if gains is None."""
    if gains is None:
        return None
    need_full_lot(len(gains), lot)
    return rows_among(gains, lot)
