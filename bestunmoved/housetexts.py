"""Houses told as lines."""


def figures(number):
    """The number in figures; in pieces, since Python writes no number of thousands of figures at once."""
    pieces = []
    rest = number
    while rest >= 10 ** 60:
        pieces.append(str(rest % 10 ** 60).zfill(60))
        rest = rest // 10 ** 60
    pieces.append(str(rest))
    return "".join(pieces[::-1])


def span_fields(rows):
    """The fields of all rows, one row behind the other, "-" for None."""
    return ["-" if span is None else figures(span) for row in rows for span in row]


def door_fields(door):
    """The fields of one door."""
    writes = [figures(book) for book in door[1]]
    looks = [figures(book) for book in door[2]]
    return [figures(door[0]), "writes"] + writes + ["looks"] + looks


def house_line(house):
    """The house as fields parted by single blanks."""
    ways, books, doors, duties = house
    fields = ["places", figures(len(ways))] + span_fields(ways)
    fields = fields + ["books"] + list(books) + ["doors", figures(len(doors))]
    for door in doors:
        fields.extend(door_fields(door))
    return " ".join(fields + ["duties"] + span_fields(duties))
