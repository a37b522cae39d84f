"""Rings, their lists and means: [24] and [37]."""

import inspect
import itertools
from fractions import Fraction

from bestunmoved.means import dearest_mean, even_wait
from bestunmoved.ringlists import all_rings, dearest_ring
from bestunmoved.rings import is_ring, slack_of, worth_of
from tests.helpers import (BIG, NOT_NUMBERS, NOT_TUPLES, RING3, Case, chance, slow_kept, slow_rings, slow_slack,
                           slow_worth, small_tables, some_table)

ONES = ((0, 1, 1), (1, 0, 1), (1, 1, 0))


class Rings(Case):

    def test_examples(self):
        self.same([is_ring(RING3, (1, 2, 0)), is_ring(RING3, (0, 2, 1))], [True, False])
        self.same(worth_of(RING3, (1, 2, 0)), 6)
        self.same(slack_of(RING3, (1, 2, 0), (0, 1, 2)), -3)

    def test_is_ring(self):
        for thing in NOT_TUPLES + ((), (0,), (0, 0), (0, 1), (1, 0), (0, 1, 1), (0, 1, 2, 0), (0, 1, 3), (-1, 0, 1),
                                   (0, True, 2), (False, 1, 2), [0, 1, 2], (0, 1, "2"), (0, 1, None), ((0, 1, 2),),
                                   ([], [], []), (0, 1, 2, 0, 1, 2)):
            self.same(is_ring(RING3, thing), False, thing)
        for ring in ((0, 1, 2), (1, 2, 0), (2, 0, 1)):
            self.same(is_ring(RING3, ring), True)
        self.same(is_ring(((0,),), (0,)), False)
        self.same(is_ring(((0, 0), (0, 0)), (1, 0)), True)

    def test_by_definition(self):
        for table, waits in small_tables(60, 24):
            rings = set(slow_rings(table))
            for many in range(len(table) + 2):
                for thing in itertools.product(range(len(table)), repeat=many):
                    self.same(is_ring(table, thing), thing in rings, table, thing)
                    if thing in rings:
                        self.same(worth_of(table, thing), slow_worth(table, thing))
                        self.same(slack_of(table, waits, thing), slow_slack(table, waits, thing))

    def test_great_numbers(self):
        table = ((0, BIG), (BIG, 0))
        self.same(worth_of(table, (0, 1)), 2 * BIG)
        self.same(slack_of(table, (0, BIG), (1, 0)), -BIG)

    def test_no_ring(self):
        for ring in NOT_TUPLES + ((0, 1), (0, 2, 1), (0, True, 2)):
            self.unusable("ring", worth_of, RING3, ring)
            self.unusable("ring", slack_of, RING3, (0, 0, 0), ring)


class AllRings(Case):

    def test_example(self):
        self.same(list(all_rings(ONES)), [(0, 1), (0, 1, 2), (0, 2), (0, 2, 1), (1, 2)])

    def test_generator(self):
        self.assertTrue(inspect.isgenerator(all_rings(ONES)))
        rings = all_rings(table=ONES)
        self.same((next(rings), next(rings)), ((0, 1), (0, 1, 2)))

    def test_by_definition(self):
        source = chance(37)
        for k in range(60):
            table = some_table(source, 1 + k % 6)
            want = sorted(ring for ring in slow_rings(table) if ring[0] == min(ring))
            self.same(list(all_rings(table)), want, table)

    def test_few_and_many(self):
        self.same(list(all_rings(((0,),))), [])
        self.same(list(all_rings(((0, 5), (None, 0)))), [])
        self.same(list(all_rings(((0, -5), (None, 0)))), [])
        self.same(list(all_rings(((0, -5), (0, 0)))), [(0, 1)])
        full = tuple(tuple(0 for _ in range(6)) for _ in range(6))
        self.assertEqual(len(list(all_rings(full))), 15 + 40 + 90 + 144 + 120)


class DearestRing(Case):

    def test_by_definition(self):
        source = chance(371)
        for k in range(50):
            table = some_table(source, 1 + k % 5)
            for many in range(len(table) + 1):
                for lot in itertools.combinations(range(len(table)), many):
                    worths = [slow_worth(table, ring) for ring in slow_rings(table) if set(ring) == set(lot)]
                    got = dearest_ring(table, lot)
                    if not worths:
                        self.same(got, None, table, lot)
                        continue
                    self.assertTrue(is_ring(table, got))
                    self.assertEqual(sorted(got), list(lot))
                    self.same(worth_of(table, got), max(worths))

    def test_edges(self):
        self.same(dearest_ring(RING3, ()), None)
        self.same(dearest_ring(RING3, (1,)), None)
        self.same(dearest_ring(RING3, (0, 1)), None)
        self.assertEqual(sorted(dearest_ring(RING3, (0, 1, 2))), [0, 1, 2])
        # The dearer ring of two, far below 0, and not another one of fewer doors.
        table = ((0, -BIG, -1), (-1, 0, -BIG), (-BIG, -1, 0))
        self.same(worth_of(table, dearest_ring(table, (0, 1, 2))), -3)


class Means(Case):

    def test_examples(self):
        self.same((dearest_mean(RING3), even_wait(RING3)), ((2, 1), 2))

    def test_edges(self):
        self.same((dearest_mean(((0,),)), even_wait(((0,),))), (None, 0))
        self.same((dearest_mean(((0, 9), (None, 0))), even_wait(((0, 9), (None, 0)))), (None, 0))
        self.same((dearest_mean(((0, 2), (1, 0))), even_wait(((0, 2), (1, 0)))), ((3, 2), 2))
        self.same((dearest_mean(((0, 0), (1, 0))), even_wait(((0, 0), (1, 0)))), ((1, 2), 1))
        self.same((dearest_mean(((0, 4), (-4, 0))), even_wait(((0, 4), (-4, 0)))), ((0, 1), 0))
        self.same((dearest_mean(((0, -3), (0, 0))), even_wait(((0, -3), (0, 0)))), ((-3, 2), 0))
        self.same(dearest_mean(((0, -6), (0, 0))), (-3, 1))
        self.same(dearest_mean(((0, -BIG, None), (None, 0, -BIG), (1, None, 0))), (1 - 2 * BIG, 3))
        self.same(dearest_mean(((0, BIG), (BIG, 0))), (BIG, 1))

    def test_by_definition(self):
        for table, _ in small_tables(200, 372, most=5):
            means = [Fraction(slow_worth(table, ring), len(ring)) for ring in slow_rings(table)]
            if means:
                self.same(dearest_mean(table), (max(means).numerator, max(means).denominator), table)
            else:
                self.same(dearest_mean(table), None)
            even = even_wait(table)
            self.assertTrue(slow_kept(table, (even,) * len(table)))
            self.assertTrue(even == 0 or not slow_kept(table, (even - 1,) * len(table)), table)

    def test_eight_doors(self):
        source = chance(373)
        for _ in range(6):
            table = some_table(source, 8, -9, 9, 0.6)
            means = [Fraction(slow_worth(table, ring), len(ring)) for ring in all_rings(table)]
            self.same(dearest_mean(table), (max(means).numerator, max(means).denominator))


class Wrong(Case):

    def test_lots(self):
        for lot in NOT_TUPLES + ((3,), (1, 0), (0, 0), (True,), (None,), (-1, 0), ((0,),)):
            self.unusable("lot", dearest_ring, RING3, lot)

    def test_waits(self):
        for value in NOT_NUMBERS:
            self.unusable("waits", slack_of, RING3, (0, value, 0), (0, 1, 2))
