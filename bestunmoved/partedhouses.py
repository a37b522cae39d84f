"""Houses of some doors alone, with doors named anew, and side by side."""

from bestunmoved.helpers import need, need_full_lot, rows_among
from bestunmoved.kinds import is_house, is_order, is_span


def kept_house(house, lot):
    """The house with the doors of lot alone, numbered anew in sequence."""
    ways, books, doors, duties = house
    need_full_lot(len(doors), lot)
    return (ways, books, tuple([doors[door] for door in lot]), rows_among(duties, lot))


def renamed_house(house, order):
    """The house in which each door x, with its duties, has the number order[x]."""
    ways, books, doors, duties = house
    need(is_order(len(doors), order), "order")
    olds = [order.index(new) for new in range(len(doors))]
    return (ways, books, tuple([doors[old] for old in olds]), rows_among(duties, olds))


def moved_door(door, places, books):
    """The door, its place and books numbered on behind so many."""
    writes = tuple([book + books for book in door[1]])
    looks = tuple([book + books for book in door[2]])
    return (door[0] + places, writes, looks)


def blocks_of(rows, others, across):
    """The rows of both, side by side, with across everywhere between them."""
    above = [row + (across,) * len(others) for row in rows]
    below = [(across,) * len(rows) + row for row in others]
    return tuple(above + below)


def beside_house(house, other, across):
    """The house of both, without a way between them, all duties between them being across."""
    need(is_house(other), "other")
    need(is_span(across), "across")
    ways = blocks_of(house[0], other[0], None)
    moved = tuple([moved_door(door, len(house[0]), len(house[1])) for door in other[2]])
    return (ways, house[1] + other[1], house[2] + moved, blocks_of(house[3], other[3], across))
