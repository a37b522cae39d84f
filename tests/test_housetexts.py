"""Lines of houses: house_line and read_house of [21], and of [22] what speaks of them."""

from bestunmoved.errors import InvalidRow, InvalidText
from bestunmoved.housereadings import read_house
from bestunmoved.housetexts import house_line
from bestunmoved.kinds import is_house
from tests.helpers import BIG, LONE, SHOP, Case, big_house, chance, some_house

LINE = "places 2 0 2 2 0 books row doors 2 0 writes 0 looks 1 writes looks 0 duties 0 0 0 0"


def is_number(field):
    """Whether a field is a number, by its characters."""
    return field == "0" or (field != "" and field[0] in "123456789" and all(c in "0123456789" for c in field))


def next_states(state, field):
    """All that may have been read behind field where state was; a second reading, which keeps every choice open."""
    phase, many, left = state
    number = is_number(field)
    entry = number or field == "-"
    if phase == "start":
        return [("places", 0, 0)] if field == "places" else []
    if phase == "places":
        return [("ways", 0, int(field) ** 2)] if number else []
    if phase == "ways" and left > 0:
        return [("ways", 0, left - 1)] if entry else []
    if phase == "ways":
        return [("books", 0, 0)] if field == "books" else []
    if phase == "books":
        if field == "doors":
            return [("doors", 0, 0)]
        return [state] if field in ("row", "lot") else []
    if phase == "doors":
        return [("begun", int(field), int(field))] if number else []
    if phase == "begun" and left > 0:
        # A door is to begin: its place.
        return [("place", many, left)] if number else []
    if phase == "begun":
        return [("duties", many, many ** 2)] if field == "duties" else []
    if phase == "place":
        return [("writes", many, left)] if field == "writes" else []
    if phase == "writes":
        if field == "looks":
            return [("looks", many, left)]
        return [state] if number else []
    if phase == "looks":
        return ([state] if number else []) + next_states(("begun", many, left - 1), field)
    return [("duties", many, left - 1)] if entry and left > 0 else []


def is_end(state):
    """Whether a line may end in this state."""
    return state[0] == "duties" and state[2] == 0


def slow_fault(text):
    """The place of the field that read_house tells, or None for a line that reads well."""
    states = [("start", 0, 0)]
    fields = text.split(" ")
    for at, field in enumerate(fields):
        states = [later for state in states for later in next_states(state, field)]
        if not states:
            return at
    return None if any(is_end(state) for state in states) else len(fields)


class Lines(Case):

    def test_examples(self):
        self.same(house_line(SHOP), LINE)
        self.same(read_house(LINE), SHOP)
        self.fails(InvalidText, (0, 9), read_house, "places 1 0 books doors 1 0 writes looks")

    def test_least(self):
        line = "places 1 0 books doors 1 0 writes looks duties 0"
        self.same(house_line(LONE), line)
        self.same(read_house(line), LONE)

    def test_none_and_many_figures(self):
        house = (((0, None), (BIG, 0)), ("lot", "row"), ((1, (0, 1), (0, 1)), (1, (), ()), (0, (1,), ())),
                 ((0, None, BIG), (None, 0, 1), (0, 0, 0)))
        line = ("places 2 0 - " + str(BIG) + " 0 books lot row doors 3 1 writes 0 1 looks 0 1 1 writes looks "
                "0 writes 1 looks duties 0 - " + str(BIG) + " - 0 1 0 0 0")
        # Door 0 does not hear door 2, at place 0.
        self.fails(InvalidRow, (0,), read_house, line)
        house = ((house[0][0][:1] + (4,), house[0][1]),) + house[1:]
        line = line.replace("places 2 0 -", "places 2 0 4")
        self.same(house_line(house), line)
        self.same(read_house(line), house)

    def test_long_lines(self):
        house = big_house()
        self.assertGreater(len(house_line(house)), 3000)
        self.same(read_house(house_line(house)), house)
        for many in (str(10 ** 60), str(10 ** 60 - 1), str(10 ** 180 + 5), "40" * 100):
            line = "places 2 0 " + many + " 0 0 books doors 1 0 writes looks duties 0"
            self.same(read_house(line)[0], ((0, int(many)), (0, 0)))
            self.same(house_line(read_house(line)), line)
        many = "7" * 9000
        line = "places 2 0 " + many + " 0 0 books doors 1 0 writes looks duties 0"
        self.same(house_line(read_house(line)) == line, True)
        self.fails(InvalidText, (0, 5), read_house, "places " + many + " 0 0 0")
        self.fails(InvalidRow, (0,), read_house, line.replace("1 0 writes", "1 " + many + " writes"))

    def test_back_and_forth(self):
        source = chance(21)
        for _ in range(60):
            house = some_house(source)
            self.same(read_house(house_line(house)), house)

    def test_not_text(self):
        for thing in (None, True, 0, (), (LINE,), [LINE], LINE.split(" ")):
            self.unusable("text", read_house, thing)

    def test_each_field(self):
        for text, field in (
                ("", 0), (" ", 0), ("place", 0), (" places 1 0", 0), ("Places 1 0", 0),
                ("places", 1), ("places ", 1), ("places -", 1), ("places 01", 1), ("places +1", 1), ("places 1.", 1),
                ("places -1", 1), ("places 1\n", 1), ("places  1", 1), ("places 00", 1), ("places one", 1),
                ("places 1", 2), ("places 1 ", 2), ("places 1 books", 2), ("places 1 -", 3), ("places 1 --", 2),
                ("places 1 -1", 2), ("places 1 00", 2), ("places 2 0 0 0 books", 5), ("places 1 0 0", 3),
                ("places 1 0 book", 3), ("places 1 0 books rows", 4), ("places 1 0 books row", 5),
                ("places 1 0 books row lot doors", 7), ("places 1 0 books 1", 4), ("places 1 0 books doors -", 5),
                ("places 1 0 books doors 1", 6), ("places 1 0 books doors 1 writes", 6),
                ("places 1 0 books doors 1 0 0", 7), ("places 1 0 books doors 1 0 looks", 7),
                ("places 1 0 books doors 1 0 writes 0 -", 9), ("places 1 0 books doors 1 0 writes 0 1 2", 11),
                ("places 1 0 books doors 1 0 writes duties", 8), ("places 1 0 books doors 1 0 writes writes", 8),
                ("places 1 0 books doors 1 0 writes looks 4 5 writes", 11),
                ("places 1 0 books doors 1 0 writes looks 4 looks", 10),
                ("places 1 0 books doors 2 0 writes looks writes", 9),
                ("places 1 0 books doors 2 0 writes looks duties", 9),
                ("places 1 0 books doors 2 0 writes looks 4 duties", 10),
                ("places 1 0 books doors 2 0 writes looks 4 5", 11),
                ("places 1 0 books doors 2 0 writes looks 4 writes looks writes", 12),
                ("places 1 0 books doors 0 0", 6), ("places 1 0 books doors 0 writes", 6),
                ("places 1 0 books doors 0", 6), ("places 1 0 books doors 0 duties 0", 7),
                ("places 0 0", 2), ("places 0 books doors 0 duties ", 6),
                (LINE + " 0", 23), (LINE + " ", 23), (LINE[:-2], 22), (LINE[:-1], 22), (LINE + "0", 22)):
            self.fails(InvalidText, (0, field), read_house, text)
            self.assertEqual(slow_fault(text), field)

    def test_no_houses(self):
        for text in ("places 0 books doors 0 duties", "places 1 0 books doors 0 duties",
                     "places 0 books doors 1 0 writes looks duties 0",
                     "places 1 1 books doors 1 0 writes looks duties 0",
                     "places 1 - books doors 1 0 writes looks duties 0",
                     "places 1 0 books doors 1 1 writes looks duties 0",
                     "places 1 0 books doors 1 0 writes 0 looks duties 0",
                     "places 1 0 books row row doors 1 0 writes 1 0 looks duties 0",
                     "places 1 0 books row doors 1 0 writes looks 0 0 duties 0",
                     "places 1 0 books doors 1 0 writes looks duties 1",
                     "places 1 0 books doors 1 0 writes looks duties -",
                     LINE.replace("0 2 2 0", "0 - 2 0"), LINE.replace("0 2 2 0", "0 2 2 1")):
            self.assertIsNone(slow_fault(text))
            self.fails(InvalidRow, (0,), read_house, text)

    def test_the_last_number_is_the_next_place(self):
        line = "places 2 0 1 1 0 books lot lot doors 2 0 writes looks 0 1 1 writes looks duties 0 0 0 0"
        self.same(read_house(line)[2], ((0, (), (0, 1)), (1, (), ())))

    def test_against_the_second_reading(self):
        source = chance(211)
        words = ("places", "books", "doors", "writes", "looks", "duties", "row", "lot", "0", "1", "2", "-", "", "01")
        for _ in range(4000):
            fields = house_line(some_house(source, doors=3)).split(" ")
            for _ in range(source.choice((0, 1, 1, 1, 2))):
                at = source.randrange(len(fields))
                fields[at:at + source.choice((0, 1, 1, 1))] = source.choice(([], [source.choice(words)]))
            text = " ".join(fields)
            field = slow_fault(text)
            if field is not None:
                self.fails(InvalidText, (0, field), read_house, text)
                continue
            try:
                house = read_house(text)
            except InvalidRow as raised:
                self.same(raised.row, 0)
            else:
                self.assertTrue(is_house(house))
                self.same(house_line(house), text)
