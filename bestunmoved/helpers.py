"""What many files of the package need: parameters asked, and rows of entries."""

from bestunmoved.errors import NotUsable, Unheard
from bestunmoved.kinds import is_below, is_integer, is_integers, is_lot, is_numbers, unheard_pair


def need(fine, word):
    """Raises NotUsable for the parameter called word, unless fine."""
    if not fine:
        raise NotUsable(word, -1)


def need_below(many, thing, word):
    """The parameter called word has to be one of many things (doors, places)."""
    need(is_below(many, thing), word)


def need_door_pair(many, door, other):
    """The parameters door and other have to be unlike ones of many doors."""
    need_below(many, door, "door")
    need(is_below(many, other) and other != door, "other")


def need_lot(many, lot):
    """The parameter lot has to be a lot of many things."""
    need(is_lot(many, lot), "lot")


def need_full_lot(many, lot):
    """The parameter lot has to be a lot of many things, and not ()."""
    need(is_lot(many, lot) and len(lot) > 0, "lot")


def need_grain(thing, word):
    """The parameter called word has to be an integer of at least 1: a grain or a scale."""
    need(is_integer(thing) and thing >= 1, word)


def need_numbers(many, thing, word):
    """The parameter called word has to be many numbers: waits or rates."""
    need(is_numbers(many, thing), word)


def need_stamps(many, stamps):
    """The parameter stamps has to be many integers."""
    need(is_integers(many, stamps), "stamps")


def need_heard(ways, doors):
    """Raises Unheard for the first door that sees another one and does not hear it."""
    pair = unheard_pair(ways, doors)
    if pair is not None:
        raise Unheard(pair[0], pair[1])


def rows_among(rows, lot):
    """The rows and columns of lot alone, in its sequence."""
    return tuple([tuple([rows[one][other] for other in lot]) for one in lot])


def as_rows(lists):
    """The tuple of tuples with what the list of lists holds."""
    return tuple([tuple(row) for row in lists])


def least_sums(rows):
    """From each to each the least sum of entries along a walk, None without one; no ring of rows is below 0."""
    many = range(len(rows))
    sums = [list(row) for row in rows]
    for middle in many:
        for start in many:
            first = sums[start][middle]
            if first is None:
                continue
            for end in many:
                second = sums[middle][end]
                if second is None:
                    continue
                known = sums[start][end]
                if known is None or first + second < known:
                    sums[start][end] = first + second
    return as_rows(sums)
