"""Partings: what they are, and their parts."""

from bestunmoved.helpers import need
from bestunmoved.kinds import is_below, is_lot, is_sized


def is_parting(size, thing):
    """Whether thing is a parting of size things."""
    if not is_sized(size, thing) or not all([is_below(size, least) for least in thing]):
        return False
    return all([least <= at and thing[least] == least for at, least in enumerate(thing)])


def need_parting(size, parting):
    """The parameter parting has to be a parting of size things."""
    need(is_parting(size, parting), "parting")


def lot_of(parting, part):
    """The lot of the things in the part."""
    return tuple([at for at, least in enumerate(parting) if least == part])


def names_of(parting):
    """The names of the parts, their least things, ascending, as a list."""
    return [at for at, least in enumerate(parting) if least == at]


def parts_of(parting):
    """The parts, each a lot, by their least things."""
    return tuple([lot_of(parting, part) for part in names_of(parting)])


def are_parts(size, thing):
    """Whether thing is lots, none of them (), that have each of size things once."""
    if not isinstance(thing, tuple) or not all([is_lot(size, lot) and len(lot) > 0 for lot in thing]):
        return False
    return sorted([member for lot in thing for member in lot]) == list(range(size))


def parting_by(size, lots):
    """The parting whose parts are these lots."""
    need(are_parts(size, lots), "lots")
    leasts = {member: lot[0] for lot in lots for member in lot}
    return tuple([leasts[member] for member in range(size)])
