"""Houses read from lines."""

from bestunmoved.errors import InvalidRow, InvalidText
from bestunmoved.helpers import need
from bestunmoved.kinds import is_house


def is_figures(field):
    """Whether the field is a number: figures, without a 0 ahead unless it is "0"."""
    return field.isascii() and field.isdigit() and (field == "0" or not field.startswith("0"))


def number_told(field):
    """The number of such a field; in pieces, since Python reads no number of thousands of figures at once."""
    first = len(field) - len(field) // 60 * 60
    number = int("0" + field[:first])
    for start in range(first, len(field), 60):
        number = number * 10 ** 60 + int(field[start:start + 60])
    return number


def field_at(fields, at):
    """The field at a place; InvalidText, with how many there are, if it ends too soon."""
    if at >= len(fields):
        raise InvalidText(0, len(fields))
    return fields[at]


def behind_word(fields, at, word):
    """The place behind the word, which has to stand at a place."""
    if field_at(fields, at) != word:
        raise InvalidText(0, at)
    return at + 1


def number_at(fields, at):
    """The number that has to stand at a place."""
    field = field_at(fields, at)
    if not is_figures(field):
        raise InvalidText(0, at)
    return number_told(field)


def spans_at(fields, at, many):
    """The entries, many of them, that have to stand from a place on."""
    spans = []
    while len(spans) < many:
        place = at + len(spans)
        spans.append(None if field_at(fields, place) == "-" else number_at(fields, place))
    return spans


def numbers_to(fields, at, word):
    """The numbers that stand from a place on, until the word comes."""
    numbers = []
    while field_at(fields, at + len(numbers)) != word:
        numbers.append(number_at(fields, at + len(numbers)))
    return numbers


def books_to(fields, at, word):
    """The kinds of books that stand from a place on, until the word comes."""
    end = at
    while field_at(fields, end) != word:
        if fields[end] != "row" and fields[end] != "lot":
            raise InvalidText(0, end)
        end += 1
    return fields[at:end]


def doors_from(fields, at, many):
    """A pair: the doors, many of them, from a place on, and the place behind them.

    The numbers behind "looks" go on into the place of the next door; so this one is the last of them.
    """
    doors = []
    place = number_at(fields, at) if many > 0 else None
    end = at if place is None else at + 1
    while len(doors) < many:
        end = behind_word(fields, end, "writes")
        writes = numbers_to(fields, end, "looks")
        end = end + len(writes) + 1
        last = len(doors) + 1 == many
        looks = numbers_to(fields, end, "duties" if last else "writes")
        end = end + len(looks)
        if not last and len(looks) == 0:
            raise InvalidText(0, end)
        upcoming = None if last else looks.pop()
        doors.append((place, tuple(writes), tuple(looks)))
        place = upcoming
    return (doors, end)


def rows_of(spans, many):
    """The entries as a tuple of many rows."""
    return tuple([tuple(spans[row * many:row * many + many]) for row in range(many)])


def told_house(fields):
    """What a line with these fields tells, a house or not; InvalidText if it does not read well."""
    at = behind_word(fields, 0, "places")
    places = number_at(fields, at)
    spans = spans_at(fields, at + 1, places * places)
    at = behind_word(fields, at + 1 + len(spans), "books")
    books = books_to(fields, at, "doors")
    at = at + len(books) + 1
    many = number_at(fields, at)
    doors, at = doors_from(fields, at + 1, many)
    at = behind_word(fields, at, "duties")
    duties = spans_at(fields, at, many * many)
    if at + len(duties) < len(fields):
        raise InvalidText(0, at + len(duties))
    return (rows_of(spans, places), tuple(books), tuple(doors), rows_of(duties, many))


def read_house(text):
    """The house of a line as house_line tells it."""
    need(isinstance(text, str), "text")
    house = told_house(text.split(" "))
    if not is_house(house):
        raise InvalidRow(0)
    return house
