"""Asks and programs as lines, and back."""

from bestunmoved.askkinds import need_asks
from bestunmoved.errors import InvalidRow, InvalidText
from bestunmoved.fields import check_fields, integer_told, is_signed_figures, line_of, pieces_of, signed_figures
from bestunmoved.helpers import need
from bestunmoved.housereadings import is_figures, number_told
from bestunmoved.housetexts import figures
from bestunmoved.programs import is_word, need_program


def asks_line(house, asks):
    """The asks as a line."""
    need_asks(house, asks)
    return line_of([figures(door) + " " + figures(moment) for door, moment in asks])


def read_asks(house, text):
    """The asks that the text tells."""
    need(isinstance(text, str), "text")
    asks = []
    last = 0
    for line, fields in enumerate(pieces_of(text)):
        check_fields(line, fields, [is_figures(field) for field in fields[:2]], 2)
        door, moment = [number_told(field) for field in fields]
        if door >= len(house[2]) or moment < last:
            raise InvalidRow(line)
        asks.append((door, moment))
        last = moment
    return tuple(asks)


def program_line(house, program):
    """The program as a line."""
    need_program(house, program)
    return line_of([word + " " + figures(wait) + " " + signed_figures(shift) for word, wait, shift in program])


def is_program_field(at, field):
    """Whether the field can stand at this place of what a program has for a door."""
    if at == 0:
        return is_word(field)
    return is_figures(field) if at == 1 else is_signed_figures(field)


def read_program(house, text):
    """The program that the text tells."""
    need(isinstance(text, str), "text")
    pieces = pieces_of(text)
    program = []
    for line, fields in enumerate(pieces):
        check_fields(line, fields, [is_program_field(at, field) for at, field in enumerate(fields[:3])], 3)
        if line >= len(house[2]):
            raise InvalidRow(line)
        program.append((fields[0], number_told(fields[1]), integer_told(fields[2])))
    if len(program) < len(house[2]):
        raise InvalidText(len(program), 0)
    return tuple(program)
