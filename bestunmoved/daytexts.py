"""Dayrows and ships as lines, and back."""

from bestunmoved.dayarcs import need_dayrows
from bestunmoved.delays import need_ships
from bestunmoved.errors import InvalidRow, InvalidText
from bestunmoved.fields import check_fields
from bestunmoved.helpers import need
from bestunmoved.housereadings import is_figures, number_told
from bestunmoved.housetexts import figures


def numbers_line(rows):
    """The rows of numbers parted by "; ", the numbers of a row by single blanks."""
    return "; ".join([" ".join([figures(number) for number in row]) for row in rows])


def numbers_told(line, piece, many):
    """The numbers of a piece of a text, of which there have to be many."""
    fields = piece.split(" ")
    check_fields(line, fields, [is_figures(field) for field in fields[:many]], many)
    return tuple([number_told(field) for field in fields])


def rows_line(dayhouse, dayrows):
    """The dayrows as a line."""
    need_dayrows(dayhouse, dayrows)
    return numbers_line(dayrows)


def read_rows(dayhouse, text):
    """The dayrows of such a line."""
    need(isinstance(text, str), "text")
    doors = len(dayhouse[3])
    pieces = text.split("; ")
    rows = [numbers_told(door, piece, dayhouse[0]) for door, piece in enumerate(pieces[:doors])]
    if len(pieces) != doors:
        raise InvalidText(min(len(pieces), doors), 0)
    return tuple(rows)


def ships_line(day, ships):
    """The ships as a line."""
    need_ships(day, ships)
    return numbers_line(ships)


def read_ships(day, text):
    """The ships of such a line."""
    need(isinstance(text, str), "text")
    ships = []
    for line, piece in enumerate(text.split("; ")):
        ship = numbers_told(line, piece, 2)
        if ship[0] >= day:
            raise InvalidRow(line)
        ships.append(ship)
    return tuple(ships)
