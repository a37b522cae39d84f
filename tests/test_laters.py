"""Later ways: [38], and of [42] what speaks of them."""

from bestunmoved.errors import Barred
from bestunmoved.housechanges import later_house, lengthened
from bestunmoved.judging import is_kept
from bestunmoved.kinds import is_ways
from bestunmoved.laters import later_by, uses_of, way_room
from bestunmoved.rings import worth_of
from bestunmoved.tables import table_of
from tests.helpers import BIG, LONE, NOT_NUMBERS, SHOP, Case, big_house, chance, slow_kept, slow_rings, some_house

# Two writers at place 0, one looker at place 2; handing on over place 1.
THREE = (((0, 1, 3), (1, 0, 4), (9, 9, 0)), ("lot",), ((0, (0,), ()), (0, (0,), ()), (2, (), (0,))), ((0,) * 3,) * 3)


def longer(house, here, there, units):
    """The house with one way longer, whether handing on then helps or not."""
    ways = tuple(tuple(way + units if (p, q) == (here, there) else way for q, way in enumerate(row))
                 for p, row in enumerate(house[0]))
    return (ways,) + house[1:]


def slow_later_by(house, waits, most):
    """The last number of units up to most with which the waits are kept."""
    good = [units for units in range(most + 1) if slow_kept(table_of(later_house(house, units)), waits)]
    return None if good == list(range(most + 1)) else good[-1]


def slow_way_room(house, waits, here, there, most):
    """The last number of units up to most by which the way may be longer."""
    good = []
    for units in range(most + 1):
        house_then = longer(house, here, there, units)
        if is_ways(house_then[0]) and slow_kept(table_of(house_then), waits):
            good.append(units)
    return None if good == list(range(most + 1)) else good[-1]


class Laters(Case):

    def test_examples(self):
        self.same((later_by(SHOP, (1, 2)), way_room(SHOP, (1, 2), 1, 0), uses_of(SHOP, (1, 0), 0, 1)), (1, None, 1))

    def test_edges(self):
        self.same(later_by(SHOP, (1, 1)), 0)
        self.same(later_by(SHOP, (0, 2 + BIG)), BIG)
        self.same(way_room(SHOP, (0, 2 + BIG), 0, 1), BIG)
        self.same(later_by(LONE, (0,)), None)
        # All waits and a duty are what a ring over a way of 0 leaves.
        swift = (((0, 0), (0, 0)),) + SHOP[1:3] + (((0, 5), (0, 0)),)
        self.same((later_by(swift, (1, 1)), way_room(swift, (1, 1), 0, 1)), (7, 7))
        # Only doors at one place see each other: no way is used.
        near = (SHOP[0], SHOP[1], ((0, (0,), ()), (0, (), (0,))), SHOP[3])
        self.same((later_by(near, (0, 0)), way_room(near, (0, 0), 0, 1)), (None, None))
        # A ring may use one way for several sights.
        both = (((0, 1), (1, 0)), ("lot",), ((0, (0,), ()), (1, (), (0,)), (0, (0,), ()), (1, (), (0,))), ((0,) * 4,) * 4)
        self.same((later_by(both, (2, 2, 2, 1)), way_room(both, (2, 2, 2, 1), 0, 1)), (2, 2))
        self.same((later_by(both, (2, 2, 1, 1)), way_room(both, (2, 2, 1, 1), 0, 1)), (1, 1))

    def test_handing_on_bounds_a_way(self):
        # From 1 to 2 a letter may go by 0.
        self.same(way_room(THREE, (9, 9, 9), 1, 2), 0)
        self.same(way_room(THREE, (9, 9, 9), 0, 2), 2)
        self.same(way_room(THREE, (0, 9, 4), 0, 2), 1)
        self.same(way_room(THREE, (0, 9, 3), 0, 2), 0)
        # With four units, the way over place 1 is as short.
        self.same(way_room(THREE, (9, 9, 9), 2, 0), 1)

    def test_by_definition(self):
        source = chance(38)
        nones = 0
        for k in range(150):
            house = some_house(source)
            table = table_of(house)
            waits = tuple(source.randint(0, 8) for _ in table)
            if not slow_kept(table, waits):
                self.barred(house, waits)
                continue
            got = later_by(house, waits)
            self.same(got, slow_later_by(house, waits, 40))
            nones += got is None
            for here in range(len(house[0])):
                for there in range(len(house[0])):
                    if here == there or house[0][here][there] is None:
                        self.unusable("there", way_room, house, waits, here, there)
                    else:
                        self.same(way_room(house, waits, here, there), slow_way_room(house, waits, here, there, 40))
        self.assertGreater(nones, 5)

    def barred(self, house, waits):
        """Both raise Barred with a ring that bars, behind the parameters."""
        table = table_of(house)
        with self.assertRaises(Barred) as held:
            later_by(house, waits)
        ring = held.exception.ring
        self.assertGreater(worth_of(table, ring), sum(waits[x] for x in ring))
        self.unusable("here", way_room, house, waits, len(house[0]), 0)
        self.unusable("there", way_room, house, waits, 0, len(house[0]))
        for there in range(1, len(house[0])):
            if house[0][0][there] is not None:
                with self.assertRaises(Barred):
                    way_room(house, waits, 0, there)

    def test_consequences(self):
        source = chance(381)
        for _ in range(80):
            house = some_house(source)
            waits = tuple(source.randint(0, 9) for _ in house[2])
            if not is_kept(table_of(house), waits):
                continue
            most = later_by(house, waits)
            for units in range(12):
                self.same(is_kept(table_of(later_house(house, units)), waits), most is None or units <= most)
            for here, row in enumerate(house[0]):
                for there, way in enumerate(row):
                    if here == there or way is None:
                        continue
                    room = way_room(house, waits, here, there)
                    for units in range(12):
                        then = longer(house, here, there, units)
                        fine = is_ways(then[0]) and is_kept(table_of(then), waits)
                        self.same(fine, room is None or units <= room)
                        if fine:
                            self.same(lengthened(house, here, there, units), then)

    def test_uses(self):
        source = chance(382)
        for _ in range(40):
            house = some_house(source)
            table = table_of(house)
            for ring in slow_rings(table):
                for here in range(len(house[0])):
                    for there in range(len(house[0])):
                        steps = zip(ring, ring[1:] + ring[:1])
                        uses = [x for x, y in steps if house[2][x][0] == there and house[2][y][0] == here
                                and set(house[2][x][2]) & set(house[2][y][1])]
                        self.same(uses_of(house, ring, here, there), len(uses))
        # Also with both at one place.
        one = (((0,),), ("lot",), ((0, (0,), (0,)),) * 3, ((0, None, None), (None, 0, None), (None, None, 0)))
        self.same(uses_of(one, (1, 2, 0), 0, 0), 3)

    def test_large_numbers(self):
        house = big_house()
        waits = (2 * BIG,) * 8
        self.same(later_by(house, waits), BIG)
        self.same(way_room(house, waits, 6, 7), BIG)

    def test_wrong(self):
        for value in NOT_NUMBERS:
            self.unusable("waits", later_by, SHOP, (value, 2))
            self.unusable("here", way_room, SHOP, (1, 2), value, 1)
            self.unusable("there", way_room, SHOP, (1, 2), 0, value)
            self.unusable("here", uses_of, SHOP, (0, 1), value, 1)
            self.unusable("there", uses_of, SHOP, (0, 1), 0, value)
        self.unusable("there", way_room, SHOP, (1, 2), 0, 0)
        self.unusable("there", way_room, SHOP, (1, 2), 0, 2)
        self.unusable("waits", way_room, SHOP, (1,), 0, 0)
        self.unusable("there", way_room, SHOP, (0, 0), 0, 0)
        for ring in ((), (0,), (0, 0), (0, 1, 0), (0, 2), (True, 0), [0, 1], None, (0, "1")):
            self.unusable("ring", uses_of, SHOP, ring, 9, 9)
