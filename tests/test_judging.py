"""Waits kept or barred, and stamps: [25], [26], and of (G2) and [32] what speaks of them."""

import itertools

from bestunmoved.errors import Barred, InvalidPaper
from bestunmoved.judging import barring_doors, is_kept
from bestunmoved.rings import is_ring, slack_of
from bestunmoved.stamps import least_stamps, lets_stamps, suits
from tests.helpers import (BIG, NOT_INTEGERS, NOT_TUPLES, RING3, Case, chance, kept_tables, slow_kept, slow_permutations,
                           slow_suits, small_tables, some_table, with_item)


class Kept(Case):

    def test_examples(self):
        self.same([is_kept(RING3, (2, 2, 2)), is_kept(RING3, (2, 2, 1))], [True, False])

    def test_one_door(self):
        self.same(is_kept(((0,),), (0,)), True)
        self.same(barring_doors(((0,),), (BIG,)), None)

    def test_slack_just_0(self):
        table = ((0, BIG), (BIG, 0))
        for waits, kept in (((BIG, BIG), True), ((2 * BIG, 0), True), ((0, 2 * BIG), True), ((BIG, BIG - 1), False)):
            self.same(is_kept(table, waits), kept)
            self.same(barring_doors(table, waits) is None, kept)

    def test_below_0(self):
        self.same(is_kept(((0, -1), (1, 0)), (0, 0)), True)
        self.same(is_kept(((0, -1), (2, 0)), (0, 0)), False)
        self.same(is_kept(((0, None), (None, 0)), (0, 0)), True)

    def test_by_all_rings(self):
        for table, waits in small_tables(400, 25, most=5):
            kept = slow_kept(table, waits)
            self.same(is_kept(table, waits), kept, table, waits)
            ring = barring_doors(table, waits)
            if kept:
                self.same(ring, None)
            else:
                self.assertTrue(is_ring(table, ring))
                self.assertLess(slack_of(table, waits, ring), 0)

    def test_eight_doors(self):
        source = chance(251)
        barred = 0
        for _ in range(60):
            table = some_table(source, 8, -20, 9, 0.5)
            waits = tuple(source.randint(0, 3) for _ in range(8))
            ring = barring_doors(table, waits)
            worths = slow_permutations([with_item(row, x, waits[x]) for x, row in enumerate(table)]) \
                if barred < 3 else None
            if ring is not None:
                self.assertTrue(is_ring(table, ring))
                self.assertLess(slack_of(table, waits, ring), 0)
            if worths is not None:
                self.same(is_kept(table, waits), max(worths) <= sum(waits))
                barred += ring is not None

    def test_the_one_barring_ring_of_eight(self):
        doors = range(8)
        table = tuple(tuple(0 if x == y else (1 if y == (x + 3) % 8 else None) for y in doors) for x in doors)
        self.same(is_kept(table, (1,) * 8), True)
        self.same(is_kept(table, (1,) * 7 + (0,)), False)
        self.assertEqual(len(barring_doors(table, (1,) * 7 + (0,))), 8)

    def test_consequences(self):
        source = chance(32)
        for table, waits in kept_tables(80, 252):
            x, y = source.randrange(len(table)), source.randrange(len(table))
            self.same(is_kept(table, with_item(waits, x, waits[x] + 1)), True)
            if x != y and table[x][y] is not None:
                for entry in (None, table[x][y] - 1):
                    lower = with_item(table, x, with_item(table[x], y, entry))
                    self.same(is_kept(lower, waits), True)

    def test_kept_exactly_by_permutations_and_stamps(self):
        for table, waits in small_tables(120, 253, most=3):
            rows = [with_item(row, x, waits[x]) for x, row in enumerate(table)]
            self.same(is_kept(table, waits), max(slow_permutations(rows)) <= sum(waits))
            some = any(slow_suits(table, waits, stamps)
                       for stamps in itertools.product(range(13), repeat=len(table)))
            self.same(is_kept(table, waits), some)


class Stamps(Case):

    def test_examples(self):
        self.same(least_stamps(RING3, (2, 2, 2)), (0, 1, 0))
        self.same(lets_stamps(RING3, (2, 2, 2), (0, 1, 0)), (2, 1, 2))
        self.fails(InvalidPaper, ("pair", 1), lets_stamps, RING3, (2, 2, 2), (0, 0, 0))

    def test_one_door(self):
        self.same(least_stamps(((0,),), (7,)), (0,))
        self.same(suits(((0,),), (7,), (-BIG,)), True)
        self.same(lets_stamps(((0,),), (7,), (-BIG,)), (BIG + 7,))

    def test_bounds(self):
        table = ((0, 3), (None, 0))
        for stamps, suit in (((0, 2), True), ((0, 1), False), ((-5, -3), True), ((-5, -4), False), ((0, BIG), True)):
            self.same(suits(table, (1, 0), stamps), suit)

    def test_least_by_definition(self):
        for table, waits in kept_tables(100, 26, most=3):
            least = least_stamps(table, waits)
            self.assertTrue(slow_suits(table, waits, least))
            self.assertIn(0, least)
            for stamps in itertools.product(range(max(least) + 2), repeat=len(table)):
                if slow_suits(table, waits, stamps):
                    self.assertTrue(all(a <= b for a, b in zip(least, stamps)), (table, waits, stamps))

    def test_least_of_eight(self):
        source = chance(261)
        done = 0
        while done < 40:
            table = some_table(source, 8, -9, 3, 0.5)
            waits = tuple(source.randint(0, 6) for _ in range(8))
            if is_kept(table, waits):
                done += 1
                least = least_stamps(table, waits)
                self.assertEqual(min(least), 0)
                self.assertTrue(suits(table, waits, least))
                # None can be less by itself; so what is above 0 is held up by another one.
                for x, stamp in enumerate(least):
                    if stamp > 0:
                        self.assertTrue(any(table[y][x] is not None and least[y] - stamp == waits[y] - table[y][x]
                                            for y in range(8) if y != x))

    def test_barred(self):
        for table, waits in small_tables(150, 262):
            if not slow_kept(table, waits):
                with self.assertRaises(Barred) as held:
                    least_stamps(table, waits)
                self.assertTrue(is_ring(table, held.exception.ring))
                self.assertLess(slack_of(table, waits, held.exception.ring), 0)

    def test_suits_and_lets_by_definition(self):
        source = chance(263)
        for table, waits in small_tables(300, 264):
            many = len(table)
            stamps = tuple(source.randint(-3, 3) for _ in range(many))
            suit = slow_suits(table, waits, stamps)
            self.same(suits(table, waits, stamps), suit)
            if suit:
                self.same(lets_stamps(table, waits, stamps), tuple(w - s for w, s in zip(waits, stamps)))
            else:
                pairs = [x * many + y for x in range(many) for y in range(many) if x != y and table[x][y] is not None
                         and stamps[x] - stamps[y] > waits[x] - table[x][y]]
                self.fails(InvalidPaper, ("pair", pairs[0]), lets_stamps, table, waits, stamps)

    def test_lets_other_values(self):
        for thing in NOT_TUPLES + ((), (0, 1), (0, 1, 0, 0), [0, 1, 0], ((0, 1, 0),)):
            self.fails(InvalidPaper, ("shape", -1), lets_stamps, RING3, (2, 2, 2), thing)
        for value in NOT_INTEGERS:
            for x in range(3):
                self.fails(InvalidPaper, ("stamp", x), lets_stamps, RING3, (2, 2, 2), with_item((0, 0, 0), x, value))
            self.fails(InvalidPaper, ("stamp", 1), lets_stamps, RING3, (2, 2, 2), (0, value, value))
        # Also where the waits are barred, and stamps may be below 0.
        self.fails(InvalidPaper, ("pair", 1), lets_stamps, RING3, (0, 0, 0), (0, 0, 0))
        self.same(lets_stamps(RING3, (2, 2, 2), (-1, 0, -1)), (3, 2, 3))
