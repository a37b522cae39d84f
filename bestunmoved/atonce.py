"""Lots of doors that may answer at once."""

from bestunmoved.helpers import need, need_lot
from bestunmoved.judging import falling_ring, waiting_costs


def all_lots(many):
    """All lots of many things."""
    lots = [()]
    for thing in range(many):
        lots = lots + [lot + (thing,) for lot in lots]
    return lots


def zero_waits(table, lot):
    """Waits of 0 for the doors of lot, and for the others as much as any ring is worth."""
    enough = sum([abs(entry) for row in table for entry in row if entry is not None])
    return tuple([0 if door in lot else enough for door in range(len(table))])


def is_free(table, lot):
    """Whether the doors of the lot may answer at once."""
    return falling_ring(waiting_costs(table, zero_waits(table, lot))) is None


def may_at_once(table, lot):
    """Whether the doors of lot may answer at once."""
    need_lot(len(table), lot)
    return is_free(table, lot)


def at_once_waits(table, lot):
    """Any kept waits that are 0 for the doors of lot."""
    need_lot(len(table), lot)
    need(is_free(table, lot), "lot")
    return zero_waits(table, lot)


def is_within(lot, other):
    """Whether all that is in lot is in other."""
    return all([thing in other for thing in lot])


def at_once_lots(table):
    """The lots that may answer at once and lie in no other such lot, ascending."""
    free = [lot for lot in all_lots(len(table)) if is_free(table, lot)]
    return tuple(sorted([lot for lot in free if not any([lot != other and is_within(lot, other) for other in free])]))
