"""Histories as lines, and back."""

from bestunmoved.errors import InvalidRow
from bestunmoved.fields import check_fields, is_list_field, line_of, list_field, list_told, pieces_of
from bestunmoved.helpers import need
from bestunmoved.historykinds import deed_word, need_faultless, need_history
from bestunmoved.housereadings import is_figures, number_told
from bestunmoved.housetexts import figures


def deed_piece(deed):
    """A deed as a piece of a line."""
    fields = [figures(part) for part in deed[:3]] + [list_field(deeds) for deeds in deed[3]]
    return " ".join(fields)


def history_line(house, history):
    """The history as a line."""
    need_history(house, history)
    need_faultless(house, history)
    return line_of([deed_piece(deed) for deed in history])


def is_door_field(house, field):
    """Whether the field is the number of a door."""
    return is_figures(field) and number_told(field) < len(house[2])


def check_deed_fields(house, line, fields):
    """Raises InvalidText unless the fields are those of a deed."""
    if not is_door_field(house, fields[0]):
        check_fields(line, fields, [False], 1)
    books = len(house[2][number_told(fields[0])][2])
    fine = [is_figures(field) for field in fields[:3]] + [is_list_field(field) for field in fields[3:3 + books]]
    check_fields(line, fields, fine, 3 + books)


def read_deed(house, line, fields):
    """The deed that the fields tell."""
    check_deed_fields(house, line, fields)
    door, asked, answered = [number_told(field) for field in fields[:3]]
    deed = (door, asked, answered, tuple([list_told(field) for field in fields[3:]]))
    if deed_word(house, deed) is not None:
        raise InvalidRow(line)
    return deed


def read_history(house, text):
    """The history, perhaps with faults, of which text is the line."""
    need(isinstance(text, str), "text")
    return tuple([read_deed(house, line, fields) for line, fields in enumerate(pieces_of(text))])
