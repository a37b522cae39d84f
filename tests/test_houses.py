"""Houses put together, and ways: [16] and [17]."""

import itertools

from bestunmoved.errors import Unheard
from bestunmoved.houses import house_of
from bestunmoved.kinds import is_house, is_ways
from bestunmoved.ways import closed_ways, way_of
from tests.helpers import (BIG, LONE, NOT_NUMBERS, NOT_SPANS, NOT_TUPLES, SHOP, Case, big_house, chance, some_house,
                           some_lot, some_rows, with_part)

LOOSE = (((0, 1, 9), (None, 0, 2), (None, None, 0)), ("lot",), ((2, (), (0, 0)), (0, (0,), ())), ((0, None), (3, 0)))


def slow_closed(ways):
    """The least sums along walks through unlike places."""
    places = range(len(ways))
    rows = []
    for p in places:
        row = []
        for r in places:
            sums = [0] if p == r else []
            for many in range(len(ways) - 1):
                for middle in itertools.permutations([q for q in places if q not in (p, r)], many):
                    walk = (p,) + middle + (r,)
                    steps = [ways[a][b] for a, b in zip(walk, walk[1:])]
                    if p != r and None not in steps:
                        sums.append(sum(steps))
            row.append(min(sums) if sums else None)
        rows.append(tuple(row))
    return tuple(rows)


class ClosedWays(Case):

    def test_few(self):
        self.same(closed_ways(((0,),)), ((0,),))
        self.same(closed_ways(((0, None), (4, 0))), ((0, None), (4, 0)))
        self.same(closed_ways(LOOSE[0]), ((0, 1, 3), (None, 0, 2), (None, None, 0)))
        self.same(closed_ways(((0, 1, None), (None, 0, 0), (BIG, None, 0))), ((0, 1, 1), (BIG, 0, 0), (BIG, BIG + 1, 0)))

    def test_a_long_walk(self):
        ways = tuple(tuple(0 if p == q else (1 if q == (p + 1) % 8 else BIG) for q in range(8)) for p in range(8))
        self.same(closed_ways(ways), tuple(tuple((q - p) % 8 for q in range(8)) for p in range(8)))

    def test_by_all_walks(self):
        source = chance(17)
        for k in range(120):
            ways = some_rows(source, 1 + k % 5, 0, 9, 0.4)
            closed = closed_ways(ways)
            self.same(closed, slow_closed(ways), ways)
            self.assertTrue(is_ways(closed))
            self.same(closed_ways(closed), closed)

    def test_way_of(self):
        self.same([way_of(SHOP, p, q) for p in (0, 1) for q in (0, 1)], [0, 2, 2, 0])
        ways = ((0, 3), (None, 0))
        house = (ways, (), ((0, (), ()),), ((0,),))
        self.same((way_of(house, 0, 1), way_of(house, 1, 0), way_of(house, 1, 1)), (3, None, 0))


class HouseOf(Case):

    def test_example(self):
        want = (((0, 1, 3), (None, 0, 2), (None, None, 0)), ("lot",), ((2, (), (0,)), (0, (0,), ())),
                ((0, None), (3, 0)))
        self.same(house_of(*LOOSE), want)
        self.assertTrue(is_house(want))

    def test_houses_come_back(self):
        for house in (SHOP, LONE, big_house()):
            self.same(house_of(*house), house)
        source = chance(16)
        for _ in range(60):
            house = some_house(source)
            self.assertTrue(is_house(house))
            self.same(house_of(*house), house)

    def test_books_become_lots(self):
        doors = ((0, (2, 0, 2), (1, 0)), (0, (), (2, 2, 2)))
        house = house_of(((0,),), ("lot", "row", "lot"), doors, ((0, 0), (0, 0)))
        self.same(house[2], ((0, (0, 2), (0, 1)), (0, (), (2,))))

    def test_closing_makes_a_way(self):
        # Door 1 hears door 0 only by handing on.
        house = house_of(((0, 1, None), (None, 0, 1), (None, None, 0)), ("row",), ((0, (0,), ()), (2, (), (0,))),
                         ((0, None), (None, 0)))
        self.same(house[0][0], (0, 1, 2))

    def test_unusable_parts(self):
        for at, word in enumerate(("ways", "books", "doors", "duties")):
            for thing in NOT_TUPLES:
                self.unusable(word, house_of, *with_part(LOOSE, (at,), thing))
        for path, values in (
                ((0,), ((), ((1,),), ((0,), (0,)))),
                ((0, 1), ((0, 0), (0, 0, 0, 0), [None, 0, 2], (None, 1, 2), (None, None, 2), (None, False, 2))),
                ((0, 1, 2), NOT_SPANS),
                ((1, 0), ("rows", "", None, 0, ("lot",), ["lot"])),
                ((2,), ((), (0, (), ()))),
                ((2, 1), (None, (0, (0,)), (0, (0,), (), ()), [0, (0,), ()])),
                ((2, 1, 0), NOT_NUMBERS + (3,)),
                ((2, 1, 1), NOT_TUPLES + ((1,), (0, 1), (-1,), (True,), (None,), ("0",), ((0,),))),
                ((2, 0, 2), NOT_TUPLES + ((1,), (0, 1), (-1,), (False,), (None,), ("0",), ((0,),))),
                ((3,), ((), ((0,),), ((0, 0),) * 3)),
                ((3, 1), ((3,), (3, 0, 0), [3, 0], None, (3, 1), (3, None))),
                ((3, 1, 0), NOT_SPANS)):
            for value in values:
                word = ("ways", "books", "doors", "duties")[path[0]]
                self.unusable(word, house_of, *with_part(LOOSE, path, value))

    def test_first_of_two(self):
        for one, other in itertools.combinations(range(4), 2):
            word = ("ways", "books", "doors", "duties")[one]
            self.unusable(word, house_of, *with_part(with_part(LOOSE, (one,), None), (other,), None))
        deaf = with_part(LOOSE, (0, 0), (0, None, None))
        self.fails(Unheard, (0, 1), house_of, *deaf)
        self.unusable("duties", house_of, *with_part(deaf, (3,), ()))

    def test_unheard(self):
        apart = ((0, None), (None, 0))
        both = ((0, (0,), (0,)), (1, (0,), (0,)))
        self.fails(Unheard, (0, 1), house_of, apart, ("row",), both, ((0, 0), (0, 0)))
        self.fails(Unheard, (1, 0), house_of, ((0, None), (1, 0)), ("row",), both, ((0, 0), (0, 0)))
        self.fails(Unheard, (1, 2), house_of, apart, ("row",),
                   ((0, (), ()), (0, (0,), (0,)), (1, (0,), ())), ((0, 0, 0),) * 3)
        # A door sees itself without a way; at one place the way is 0.
        doors = ((0, (0,), (0,)), (0, (0,), (0,)))
        self.same(house_of(apart, ("row",), doors, ((0, 0), (0, 0)))[2], doors)

    def test_first_unheard_pair(self):
        source = chance(161)
        for _ in range(200):
            places, many = source.randint(1, 3), source.randint(1, 4)
            ways = some_rows(source, places, 0, 3, 0.6)
            doors = tuple((source.randrange(places), some_lot(source, 2), some_lot(source, 2)) for _ in range(many))
            closed = slow_closed(ways)
            deaf = [(x, y) for x in range(many) for y in range(many) if x != y
                    and set(doors[x][2]) & set(doors[y][1]) and closed[doors[y][0]][doors[x][0]] is None]
            args = (ways, ("row", "lot"), doors, ((0,) * many,) * many)
            if deaf:
                self.fails(Unheard, deaf[0], house_of, *args)
            else:
                self.same(house_of(*args), (closed,) + args[1:])
