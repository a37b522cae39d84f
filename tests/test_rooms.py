"""Rooms, least and bare waits, judges: [30], [31], and of (G6) and [32] what speaks of them."""

import itertools

from bestunmoved.errors import Barred
from bestunmoved.judgeclasses import Judge
from bestunmoved.leastwaits import is_bare, least_wait, lowered
from bestunmoved.ringpapers import ring_paper
from bestunmoved.rings import is_ring, slack_of
from bestunmoved.rooms import room_of, room_table, tight_ring
from bestunmoved.stamps import least_stamps
from bestunmoved.tables import table_of
from tests.helpers import (BIG, LONE, NOT_NUMBERS, RING3, SHOP, Case, chance, kept_tables, slow_bare, slow_kept,
                           slow_rings, slow_slack, small_tables, some_house, some_table, with_item, with_part)


def slow_room(table, waits, x, y):
    """The room by trying entries from above; None if a very great one is let."""
    def kept(entry):
        return slow_kept(with_part(table, (x, y), entry), waits)
    most = 100
    if kept(most):
        return None
    while not kept(most):
        most -= 1
    return most


class Rooms(Case):

    def test_examples(self):
        self.same([room_of(RING3, (2, 2, 2), 0, 1), room_of(RING3, (2, 2, 2), 1, 0)], [3, 1])
        self.same(room_table(RING3, (2, 2, 3)), ((0, 4, 3), (1, 0, 2), (3, 4, 0)))

    def test_by_definition(self):
        for table, waits in kept_tables(100, 30):
            many = len(table)
            rows = []
            for x in range(many):
                rows.append(tuple(0 if x == y else slow_room(table, waits, x, y) for y in range(many)))
                for y in range(many):
                    if x != y:
                        self.same(room_of(table, waits, x, y), rows[x][y], table, waits, x, y)
            self.same(room_table(table, waits), tuple(rows))

    def test_the_entry_makes_no_difference(self):
        for entry in (None, -BIG, 0, 3):
            table = with_part(RING3, (0, 1), entry)
            self.same(room_of(table, (2, 2, 2), 0, 1), 3)

    def test_room_against_entries(self):
        for table, waits in kept_tables(60, 301):
            for x, y in itertools.permutations(range(len(table)), 2):
                room = room_of(table, waits, x, y)
                if table[x][y] is not None:
                    tight = any(slow_slack(table, waits, ring) == 0 and (x, y) in zip(ring, ring[1:] + ring[:1])
                                for ring in slow_rings(table))
                    self.assertTrue(room is None or table[x][y] <= room)
                    self.assertEqual(room == table[x][y], tight)

    def test_edges(self):
        self.same(room_table(((0,),), (0,)), ((0,),))
        self.same(room_table(((0, None), (None, 0)), (0, 0)), ((0, None), (None, 0)))
        self.same(room_table(((0, BIG), (None, 0)), (0, 0)), ((0, None), (-BIG, 0)))
        self.same(room_of(((0, -5), (None, 0)), (0, 1), 1, 0), 6)

    def test_same_door(self):
        for x in range(3):
            self.unusable("other", room_of, RING3, (2, 2, 2), x, x)

    def test_barred(self):
        for call in (room_table, lambda table, waits: room_of(table, waits, 0, 1),
                     lambda table, waits: tight_ring(table, waits, 0),
                     lambda table, waits: lowered(table, waits, (0, 1, 2))):
            with self.assertRaises(Barred) as held:
                call(RING3, (2, 2, 1))
            self.assertTrue(is_ring(RING3, held.exception.ring))
            self.same(slack_of(RING3, (2, 2, 1), held.exception.ring), -1)


class TightRings(Case):

    def test_by_definition(self):
        for table, waits in kept_tables(150, 302, most=5):
            tight = [ring for ring in slow_rings(table) if slow_slack(table, waits, ring) == 0]
            for x in range(len(table)):
                ring = tight_ring(table, waits, x)
                if any(x in other for other in tight):
                    self.assertTrue(is_ring(table, ring))
                    self.assertIn(x, ring)
                    self.same(slack_of(table, waits, ring), 0)
                else:
                    self.same(ring, None)

    def test_two_rings_that_meet(self):
        # Rings (0, 1) and (1, 2) are tight, and no ring goes through 0 and 2.
        table = ((0, 1, None), (0, 0, 1), (None, 0, 0))
        for x, doors in ((0, [0, 1]), (2, [1, 2])):
            self.assertEqual(sorted(tight_ring(table, (0, 1, 0), x)), doors)
        self.same(tight_ring(((0,),), (0,), 0), None)
        self.same(tight_ring(RING3, (2, 2, 3), 0), None)
        self.assertEqual(sorted(tight_ring(RING3, (2, 2, 2), 2)), [0, 1, 2])


class LeastWaits(Case):

    def test_examples(self):
        self.same(least_wait(RING3, (2, 2, 9), 2), 2)
        self.same(lowered(RING3, (2, 2, 3), (0, 1, 2)), (1, 2, 3))
        self.same([is_bare(RING3, (1, 2, 3)), is_bare(RING3, (2, 2, 3))], [True, False])

    def test_by_definition(self):
        for table, waits in small_tables(250, 31):
            for x in range(len(table)):
                least = None
                for wait in range(40):
                    if slow_kept(table, with_item(waits, x, wait)):
                        least = wait
                        break
                self.same(least_wait(table, waits, x), least, table, waits, x)
                self.same(least_wait(table, with_item(waits, x, BIG), x), least)
                self.same(least_wait(table, with_item(waits, x, 0), x), least)

    def test_greatest_lack_of_its_rings(self):
        for table, waits in kept_tables(60, 311):
            for x in range(len(table)):
                lacks = [waits[x] - slow_slack(table, waits, ring) for ring in slow_rings(table) if x in ring]
                self.same(least_wait(table, waits, x), max([0] + lacks))

    def test_edges(self):
        self.same(least_wait(((0,),), (7,), 0), 0)
        self.same(lowered(((0,),), (7,), (0,)), (0,))
        self.same([is_bare(((0,),), (wait,)) for wait in (0, 1)], [True, False])
        # A ring of doors 0 and 1 bars whatever door 2 waits.
        table = ((0, BIG, 1), (BIG, 0, 1), (1, 1, 0))
        self.same(least_wait(table, (BIG, BIG - 1, 9), 2), None)
        self.same(least_wait(table, (BIG, BIG, 9), 2), 0)
        self.same(least_wait(table, (0, 0, 9), 0), 2 * BIG)

    def test_lowered(self):
        for table, waits in kept_tables(120, 312, most=4):
            for order in itertools.permutations(range(len(table))):
                now = waits
                for x in order:
                    now = with_item(now, x, least_wait(table, now, x))
                got = lowered(table, waits, order)
                self.same(got, now)
                self.assertTrue(slow_bare(table, got))
                self.assertTrue(is_bare(table, got))
                self.assertTrue(all(a <= b for a, b in zip(got, waits)))

    def test_is_bare(self):
        for table, waits in list(small_tables(200, 313, most=3)) + list(kept_tables(100, 314, most=3)):
            bare = slow_bare(table, waits)
            self.same(is_bare(table, waits), bare, table, waits)
            if slow_kept(table, waits):
                self.same(bare, all(least_wait(table, waits, x) == wait for x, wait in enumerate(waits)))
                self.same(bare, all(wait == 0 or tight_ring(table, waits, x) is not None
                                    for x, wait in enumerate(waits)))

    def test_eight_doors(self):
        source = chance(315)
        for _ in range(10):
            table = some_table(source, 8, -9, 9, 0.4)
            order = tuple(source.sample(range(8), 8))
            waits = lowered(table, (9,) * 8, order)
            self.assertTrue(is_bare(table, waits))
            for x in range(8):
                self.assertTrue(waits[x] == 0 or x in tight_ring(table, waits, x))
                self.same(least_wait(table, waits, x), waits[x])


class Judges(Case):

    def test_example(self):
        self.same(Judge(SHOP, (3, 0)).bare((1, 0)).told()[1], (2, 0))

    def test_methods(self):
        source = chance(316)
        for _ in range(60):
            house = some_house(source)
            many = len(house[2])
            table = table_of(house)
            waits = tuple(source.randint(0, 5) for _ in range(many))
            judge = Judge(house, waits)
            kept = slow_kept(table, waits)
            self.same(judge.kept(), kept)
            self.same(judge.told(), (house, waits))
            for grain in (1, many):
                self.same(judge.ring(grain), ring_paper(table, grain, waits))
            for x in range(many):
                self.same(judge.least(x), least_wait(table, waits, x))
            order = tuple(source.sample(range(many), many))
            if kept:
                self.same(judge.stamps(), least_stamps(table, waits))
                for x, y in itertools.permutations(range(many), 2):
                    self.same(judge.room(x, y), room_of(table, waits, x, y))
                bare = judge.bare(order)
                self.assertIs(bare.__class__, Judge)
                self.same(bare.told(), (house, lowered(table, waits, order)))
            else:
                for call, args in ((judge.stamps, ()), (judge.room, (0, 1)), (judge.bare, (order,))):
                    with self.assertRaises(Barred) as held:
                        call(*args)
                    self.assertLess(slack_of(table, waits, held.exception.ring), 0)
            self.same(judge.told(), (house, waits))

    def test_errors(self):
        for house in (None, 0, (), SHOP[:3], with_part(SHOP, (0, 0), (0, None)), list(SHOP)):
            self.unusable("house", Judge, house, None)
        for waits in (None, 0, (), (1,), (1, 0, 0), [1, 0], (1, -1), (True, 0), (None, 0)):
            self.unusable("waits", Judge, SHOP, waits)
        judge = Judge(house=SHOP, waits=(1, 0))
        for value in NOT_NUMBERS + (2,):
            self.unusable("door", judge.room, value, value)
            self.unusable("other", judge.room, 0, value)
            self.unusable("door", judge.least, value)
            self.unusable("order", judge.bare, (0, value))
        self.unusable("other", judge.room, 1, 1)
        for value in NOT_NUMBERS + (0,):
            self.unusable("grain", judge.ring, value)
        for value in (None, 0, (), (0,), [0, 1], (0, 0), (0, 1, 2)):
            self.unusable("order", judge.bare, value)

    def test_equal(self):
        judge = Judge(SHOP, (1, 0))
        self.assertTrue(judge == judge)
        self.assertTrue(judge == Judge(SHOP, (1, 0)))
        self.assertFalse(judge != Judge(SHOP, (1, 0)))
        self.assertTrue(judge != Judge(SHOP, (1, 1)))
        self.assertTrue(Judge(SHOP, (0, 1)) != Judge(SHOP, (1, 0)))
        # Houses with one table are not the same for that.
        longer = with_part(SHOP, (0, 1, 0), 3)
        self.assertEqual(table_of(longer), table_of(SHOP))
        self.assertFalse(judge == Judge(longer, (1, 0)))
        self.assertTrue(judge.bare((0, 1)) != judge if judge.kept() else True)
        for value in ((SHOP, (1, 0)), [SHOP, (1, 0)], None, 0, (), SHOP, "", True):
            self.assertFalse(judge == value)
            self.assertTrue(judge != value)
        self.assertTrue(Judge(LONE, (0,)) == Judge(LONE, (4,)).bare((0,)))

    def test_defined_in_the_class(self):
        for name in ("__init__", "kept", "stamps", "ring", "room", "least", "bare", "told", "__eq__"):
            self.assertIn(name, vars(Judge))
