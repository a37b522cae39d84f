"""Tables: what they are, and those of houses."""

from bestunmoved.helpers import need_door_pair, need_full_lot, need_grain, rows_among
from bestunmoved.kinds import common_books, is_integer, is_sized


def is_table_row(many, own, thing):
    """Whether thing is a row of many entries, that at own being 0."""
    if not is_sized(many, thing):
        return False
    return all([entry is None or is_integer(entry) for entry in thing]) and thing[own] == 0


def is_table(thing):
    """Whether thing is a table."""
    if not isinstance(thing, tuple) or len(thing) == 0:
        return False
    return all([is_table_row(len(thing), door, row) for door, row in enumerate(thing)])


def word_between(house, door, other):
    """How the entry from door to an unlike other comes about: "sight", "duty" or None."""
    if common_books(house[2][door], house[2][other]) != ():
        return "sight"
    return None if house[3][door][other] is None else "duty"


def entry_between(house, door, other):
    """The entry from door to other in the table of the house."""
    if door == other:
        return 0
    word = word_between(house, door, other)
    if word == "sight":
        return house[0][house[2][other][0]][house[2][door][0]]
    return None if word is None else -house[3][door][other]


def table_of(house):
    """The table of the house."""
    doors = range(len(house[2]))
    return tuple([tuple([entry_between(house, door, other) for other in doors]) for door in doors])


def entry_word(house, door, other):
    """How the entry from door to an unlike other comes about: "sight", "duty" or None."""
    need_door_pair(len(house[2]), door, other)
    return word_between(house, door, other)


def kept_table(table, lot):
    """The table of the doors of lot alone, numbered anew in sequence."""
    need_full_lot(len(table), lot)
    return rows_among(table, lot)


def scaled(table, scale):
    """The table with all entries times scale."""
    need_grain(scale, "scale")
    return tuple([tuple([None if entry is None else entry * scale for entry in row]) for row in table])
