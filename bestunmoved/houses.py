"""Houses put together from their parts."""

from bestunmoved.helpers import need, need_heard
from bestunmoved.kinds import books_fault, duties_fault, is_below, is_sized, rows_fault
from bestunmoved.ways import closed_ways


def is_books_of_door(books, thing):
    """Whether thing is a tuple of numbers of so many books, in any sequence, also with repeats."""
    return isinstance(thing, tuple) and all([is_below(books, book) for book in thing])


def is_loose_door(places, books, door):
    """Whether door is a door, its books in any sequence and perhaps more than once."""
    if not is_sized(3, door) or not is_below(places, door[0]):
        return False
    return is_books_of_door(books, door[1]) and is_books_of_door(books, door[2])


def are_loose_doors(places, books, doors):
    """Whether doors are such doors, at least one."""
    if not isinstance(doors, tuple) or len(doors) == 0:
        return False
    return all([is_loose_door(places, books, door) for door in doors])


def strict_door(door):
    """The door with its books as lots."""
    return (door[0], tuple(sorted(set(door[1]))), tuple(sorted(set(door[2]))))


def house_with(closed, books, doors, duties):
    """The house with these ways, which are closed, and the other parts, each asked in its turn."""
    need(books_fault(books) is None, "books")
    need(are_loose_doors(len(closed), len(books), doors), "doors")
    need(duties_fault(len(doors), duties) is None, "duties")
    strict = tuple([strict_door(door) for door in doors])
    need_heard(closed, strict)
    return (closed, books, strict, duties)


def house_of(ways, books, doors, duties):
    """The house with these parts, its ways closed."""
    need(rows_fault(ways) is None, "ways")
    return house_with(closed_ways(ways), books, doors, duties)
