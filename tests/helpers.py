"""What the tests share: values of the document, slow readings of its definitions, houses and tables by chance."""

import itertools
import random
import unittest

from bestunmoved.errors import NotUsable, UnmovedError, Unheard
from bestunmoved.houses import house_of

SHOP = (((0, 2), (2, 0)), ("row",), ((0, (0,), ()), (1, (), (0,))), ((0, 0), (0, 0)))
RING3 = ((0, 3, None), (None, 0, 1), (2, None, 0))
BIG = 10 ** 30

# The least house: one place, one door, no book.
LONE = (((0,),), (), ((0, (), ()),), ((0,),))

NOT_INTEGERS = (True, False, None, "", "0", "1", (), (0,), (1,), [], [0], ((),), (None,), (0, 0))
NOT_NUMBERS = NOT_INTEGERS + (-1, -BIG)
NOT_SPANS = tuple(value for value in NOT_NUMBERS if value is not None)
NOT_TUPLES = (None, True, False, 0, 1, -1, "", "row", "01", [], [0], [0, 1], [()], [(0,)])


def big_house():
    """A house with eight places, eight doors and ten books, and numbers up to 10 ** 30."""
    many = range(8)
    ways = tuple(tuple(0 if p == q else BIG for q in many) for p in many)
    books = ("row", "lot") * 5
    doors = tuple((7 - x, (x, 8), (x, (x + 1) % 8, 9)) for x in many)
    doors = tuple((place, tuple(sorted(writes)), tuple(sorted(looks))) for place, writes, looks in doors)
    duties = tuple(tuple(0 if x == y else (None if (x + y) % 3 == 0 else BIG) for y in many) for x in many)
    return (ways, books, doors, duties)


def chance(seed):
    """A source of chance that is the same in every run."""
    return random.Random(seed)


def some_lot(source, many):
    """Any lot below many."""
    return tuple(k for k in range(many) if source.random() < 0.45)


def some_rows(source, many, low, high, gaps):
    """Rows with 0 on the diagonal, elsewhere None (about as often as gaps) or low to high."""
    def entry(x, y):
        if x == y:
            return 0
        return None if source.random() < gaps else source.randint(low, high)
    return tuple(tuple(entry(x, y) for y in range(many)) for x in range(many))


def some_house(source, places=3, doors=4, gaps=0.25):
    """Any house with at most so many places and doors."""
    while True:
        many = source.randint(1, doors)
        stood = source.randint(1, places)
        ways = some_rows(source, stood, 0, 5, gaps)
        books = tuple(source.choice(("row", "lot")) for _ in range(source.randint(0, 3)))
        stands = tuple((source.randrange(stood), some_lot(source, len(books)), some_lot(source, len(books)))
                       for _ in range(many))
        duties = some_rows(source, many, 0, 6, gaps)
        try:
            return house_of(ways, books, stands, duties)
        except Unheard:
            pass


def some_table(source, many, low=-3, high=4, gaps=0.3):
    """Any table of many doors."""
    return some_rows(source, many, low, high, gaps)


def small_tables(count, seed, most=4):
    """As many tables, of 1 to most doors, each with waits for its doors."""
    source = chance(seed)
    for k in range(count):
        many = 1 + k % most
        table = some_table(source, many)
        yield table, tuple(source.randint(0, 4) for _ in range(many))


def kept_tables(count, seed, most=4):
    """As many tables with waits that are kept."""
    source = chance(seed)
    done = 0
    while done < count:
        many = 1 + done % most
        table = some_table(source, many)
        waits = tuple(source.randint(0, 5) for _ in range(many))
        if slow_kept(table, waits):
            done += 1
            yield table, waits


def slow_rings(table):
    """All rings of the table by the definition, each from every door on."""
    doors = range(len(table))
    for many in range(2, len(table) + 1):
        for ring in itertools.permutations(doors, many):
            if all(table[x][y] is not None for x, y in zip(ring, ring[1:] + ring[:1])):
                yield ring


def slow_worth(table, ring):
    """The worth of a ring by the definition."""
    return sum(table[x][y] for x, y in zip(ring, ring[1:] + ring[:1]))


def slow_slack(table, waits, ring):
    """The slack of a ring by the definition."""
    return sum(waits[x] for x in ring) - slow_worth(table, ring)


def slow_kept(table, waits):
    """Whether no ring bars the waits."""
    return all(slow_slack(table, waits, ring) >= 0 for ring in slow_rings(table))


def slow_kept_at(table, grain, waits):
    """Whether no ring bars the waits at the grain."""
    return all(grain * slow_slack(table, waits, ring) + len(ring) > 0 for ring in slow_rings(table))


def slow_suits(table, waits, stamps):
    """Whether the stamps suit the waits by the definition."""
    many = range(len(table))
    return all(stamps[x] - stamps[y] <= waits[x] - table[x][y]
               for x in many for y in many if x != y and table[x][y] is not None)


def slow_bare(table, waits):
    """Whether the waits are kept and none can be less, the others staying."""
    if not slow_kept(table, waits):
        return False
    for x, wait in enumerate(waits):
        for less in range(wait):
            if slow_kept(table, waits[:x] + (less,) + waits[x + 1:]):
                return False
    return True


def slow_dealings(table, rates):
    """All dealings by rates, row by row."""
    many = len(table)

    def rows(x):
        for row in itertools.product(range(rates[x] + 1), repeat=many):
            if sum(row) == rates[x] and all(n == 0 or table[x][y] is not None for y, n in enumerate(row)):
                yield row
    for dealing in itertools.product(*(list(rows(x)) for x in range(many))):
        if all(sum(row[y] for row in dealing) == rates[y] for y in range(many)):
            yield dealing


def slow_dealt(table, dealing):
    """The worth of a dealing by the definition."""
    many = range(len(table))
    return sum(dealing[x][y] * table[x][y] for x in many for y in many if table[x][y] is not None)


def slow_permutations(rows):
    """The worths of all permutations of the rows (a list of rows with any diagonal)."""
    many = range(len(rows))
    for order in itertools.permutations(many):
        entries = [rows[x][y] for x, y in zip(many, order)]
        if None not in entries:
            yield sum(entries)


def with_item(values, at, value):
    """The tuple with another value at a place."""
    return values[:at] + (value,) + values[at + 1:]


def with_part(thing, path, value):
    """The nested tuple with another value at the end of the path."""
    if not path:
        return value
    return with_item(thing, path[0], with_part(thing[path[0]], path[1:], value))


class Case(unittest.TestCase):
    """A test case that asks for exactly the kind of value: True is not 1, a list no tuple."""

    def same(self, got, want, *about):
        self.assertEqual(repr(got), repr(want), about)

    def fails(self, error, fields, call, *args, **named):
        """call raises just this error with just these fields."""
        try:
            got = call(*args, **named)
        except UnmovedError as raised:
            self.assertIs(raised.__class__, error, (raised, args, named))
            self.same(tuple(vars(raised).values()), tuple(fields), args, named)
        else:
            self.fail("%r was returned for %r %r" % (got, args, named))

    def unusable(self, word, call, *args, **named):
        """call raises NotUsable(word, -1)."""
        self.fails(NotUsable, (word, -1), call, *args, **named)
