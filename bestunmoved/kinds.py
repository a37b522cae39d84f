"""Kinds of values: integers, numbers, lots, orders, ways and houses."""


def is_integer(thing):
    """Whether thing is an int that is not a bool."""
    return isinstance(thing, int) and not isinstance(thing, bool)


def is_number(thing):
    """Whether thing is an integer that is at least 0."""
    return is_integer(thing) and thing >= 0


def is_below(many, thing):
    """Whether thing is one of many things: a number below many."""
    return is_number(thing) and thing < many


def is_sized(many, thing):
    """Whether thing is a tuple with many elements."""
    return isinstance(thing, tuple) and len(thing) == many


def is_integers(many, thing):
    """Whether thing is a tuple of many integers."""
    return is_sized(many, thing) and all([is_integer(part) for part in thing])


def is_numbers(many, thing):
    """Whether thing is a tuple of many numbers."""
    return is_sized(many, thing) and all([is_number(part) for part in thing])


def is_lot(size, thing):
    """Whether thing is an ascending tuple of numbers below size."""
    if not isinstance(thing, tuple):
        return False
    last = -1
    for member in thing:
        if not is_below(size, member) or member <= last:
            return False
        last = member
    return True


def is_order(size, thing):
    """Whether thing is a tuple of the numbers below size, each once."""
    return is_numbers(size, thing) and sorted(thing) == list(range(size))


def is_span(thing):
    """Whether thing is an entry of ways or duties: a number or None."""
    return thing is None or is_number(thing)


def is_span_row(many, own, thing):
    """Whether thing is a row of many spans, that at own being 0."""
    if not is_sized(many, thing):
        return False
    return all([is_span(span) for span in thing]) and thing[own] == 0


def rows_fault(ways):
    """The first fault (word, at) of the rows of ways, by themselves; or None."""
    if not isinstance(ways, tuple) or len(ways) == 0:
        return ("ways", -1)
    for place, row in enumerate(ways):
        if not is_span_row(len(ways), place, row):
            return ("ways", place)
    return None


def is_helped(ways, place):
    """Whether handing on gets a letter from place somewhere sooner than its way, or without one."""
    straight = ways[place]
    for first, row in zip(straight, ways):
        if first is None:
            continue
        for second, way in zip(row, straight):
            if second is not None and (way is None or way > first + second):
                return True
    return False


def handing_fault(ways):
    """The first fault of ways of which the rows are well: a place where handing on helps; or None."""
    for place in range(len(ways)):
        if is_helped(ways, place):
            return ("handing", place)
    return None


def is_ways(thing):
    """Whether thing is ways."""
    return rows_fault(thing) is None and handing_fault(thing) is None


def books_fault(books):
    """The first fault of the books of a house, or None."""
    if not isinstance(books, tuple):
        return ("books", -1)
    for at, book in enumerate(books):
        if book != "row" and book != "lot":
            return ("book", at)
    return None


def door_fault(places, books, at, door):
    """The first fault of one door, told as at, among so many places and books; or None."""
    if not is_sized(3, door):
        return ("door", at)
    if not is_below(places, door[0]):
        return ("place", at)
    if not is_lot(books, door[1]):
        return ("writes", at)
    if not is_lot(books, door[2]):
        return ("looks", at)
    return None


def doors_fault(places, books, doors):
    """The first fault of the doors of a house with so many places and books, or None."""
    if not isinstance(doors, tuple) or len(doors) == 0:
        return ("doors", -1)
    for at, door in enumerate(doors):
        fault = door_fault(places, books, at, door)
        if fault is not None:
            return fault
    return None


def duties_fault(many, duties):
    """The first fault of duties for many doors, or None."""
    if not is_sized(many, duties):
        return ("duties", -1)
    for door, row in enumerate(duties):
        if not is_span_row(many, door, row):
            return ("duties", door)
    return None


def common_books(looker, writer):
    """The lot of the books that the door looker (a triple) looks at and the door writer writes."""
    return tuple([book for book in looker[2] if book in writer[1]])


def unheard_pair(ways, doors):
    """The first pair (door, other) of unlike doors of which door sees other and does not hear it; or None."""
    for at, looker in enumerate(doors):
        for other, writer in enumerate(doors):
            if at != other and ways[writer[0]][looker[0]] is None and common_books(looker, writer) != ():
                return (at, other)
    return None


def rest_fault(ways, books, doors, duties):
    """The first fault of a house behind its ways, which are well; or None."""
    fault = books_fault(books)
    if fault is None:
        fault = doors_fault(len(ways), len(books), doors)
    if fault is None:
        fault = duties_fault(len(doors), duties)
    if fault is None:
        pair = unheard_pair(ways, doors)
        if pair is not None:
            return ("unheard", pair[0])
    return fault


def house_fault(thing):
    """The first fault (word, at) of thing as a house, or None if it is one."""
    if not is_sized(4, thing):
        return ("shape", -1)
    ways, books, doors, duties = thing
    fault = rows_fault(ways)
    if fault is None:
        fault = handing_fault(ways)
    if fault is None:
        fault = rest_fault(ways, books, doors, duties)
    return fault


def is_house(thing):
    """Whether thing is a house."""
    return house_fault(thing) is None
