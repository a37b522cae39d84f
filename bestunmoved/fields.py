"""Lines of pieces parted by "; ", and their fields, parted by single blanks."""

from bestunmoved.errors import InvalidText
from bestunmoved.housereadings import is_figures, number_told
from bestunmoved.housetexts import figures


def line_of(pieces):
    """The pieces as one line, "-" for none."""
    return "; ".join(pieces) if len(pieces) > 0 else "-"


def pieces_of(text):
    """For each piece of the line the list of its fields; none for "-"."""
    return [] if text == "-" else [piece.split(" ") for piece in text.split("; ")]


def signed_figures(integer):
    """The integer in figures, with a sign below 0."""
    return "-" + figures(-integer) if integer < 0 else figures(integer)


def is_signed_figures(field):
    """Whether the field is an integer: a number, with a sign if it is not 0."""
    return is_figures(field) or (field.startswith("-") and is_figures(field[1:]) and field != "-0")


def integer_told(field):
    """The integer of such a field."""
    return -number_told(field[1:]) if field.startswith("-") else number_told(field)


def list_field(numbers):
    """The numbers in figures, joined by commas; "-" for none."""
    return ",".join([figures(number) for number in numbers]) if len(numbers) > 0 else "-"


def is_list_field(field):
    """Whether the field is numbers joined by commas, or "-"."""
    return field == "-" or all([is_figures(part) for part in field.split(",")])


def list_told(field):
    """The numbers of such a field."""
    return () if field == "-" else tuple([number_told(part) for part in field.split(",")])


def check_fields(line, fields, fine, many):
    """Raises InvalidText for the first field that is not fine, or one too many, or if there are too few.

    Whether they are fine is told of the first ones, as many as there may be.
    """
    if False in fine:
        raise InvalidText(line, fine.index(False))
    if len(fields) != many:
        raise InvalidText(line, min(len(fields), many))
