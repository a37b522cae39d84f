"""The checkers of sharp lots and of covers."""

from bestunmoved.covers import inner_worths, worths_of_lots
from bestunmoved.errors import InvalidPaper
from bestunmoved.kinds import is_integer, is_lot, is_number, is_numbers, is_sized
from bestunmoved.sharplots import is_kept_lot, need_worth_lot, worth_in


def check_scaled(thing):
    """Raises InvalidPaper unless thing is a pair that begins with a scale."""
    if not is_sized(2, thing):
        raise InvalidPaper("shape", -1)
    if not is_integer(thing[0]) or thing[0] < 1:
        raise InvalidPaper("scale", -1)


def lets_sharp(table, lot, thing):
    """The numbers; InvalidPaper unless thing is waits in a scale that keep all other lots, but not this one."""
    worths = worths_of_lots(table)
    need_worth_lot(table, worths, lot)
    check_scaled(thing)
    scale, numbers = thing
    if not is_numbers(len(table), numbers):
        raise InvalidPaper("numbers", -1)
    for at, pair in enumerate(worths):
        if pair[0] != lot and not is_kept_lot(scale, numbers, pair):
            raise InvalidPaper("other", at)
    if is_kept_lot(scale, numbers, (lot, worth_in(worths, lot))):
        raise InvalidPaper("lot", -1)
    return numbers


def is_cover_row(many, inner, before, row):
    """Whether row is a pair of an inner lot, above those of the rows before, and an integer of at least 1."""
    if not is_sized(2, row) or not is_lot(many, row[0]) or not is_number(row[1]) or row[1] == 0:
        return False
    return worth_in(inner, row[0]) is not None and all([row[0] > small for small, _ in before])


def check_cover(table, inner, scale, rows):
    """Raises InvalidPaper unless rows are such pairs, at no door adding up to more than the scale."""
    if not isinstance(rows, tuple):
        raise InvalidPaper("rows", -1)
    for at, row in enumerate(rows):
        if not is_cover_row(len(table), inner, rows[:at], row):
            raise InvalidPaper("row", at)
    for door in range(len(table)):
        if sum([number for small, number in rows if door in small]) > scale:
            raise InvalidPaper("door", door)


def lets_cover(table, lot, thing):
    """What the inner lots cover; InvalidPaper unless thing is a scale and inner lots that cover the lot."""
    worths = worths_of_lots(table)
    need_worth_lot(table, worths, lot)
    check_scaled(thing)
    scale, rows = thing
    inner = inner_worths(worths, lot)
    check_cover(table, inner, scale, rows)
    covered = sum([number * worth_in(inner, small) for small, number in rows])
    if covered < scale * worth_in(worths, lot):
        raise InvalidPaper("worth", -1)
    return covered
