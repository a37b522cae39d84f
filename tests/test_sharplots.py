"""Sharp lots, tables alike and prices: [40], [41], and of (G8) and [42] what speaks of them."""

import itertools

from bestunmoved.alikes import telling_waits, waits_alike
from bestunmoved.cheapwaits import cheapest_waits, cost_of, deal_paper
from bestunmoved.covers import best_cover, cover_worth
from bestunmoved.dealchecker import lets_deal
from bestunmoved.dealings import dearest_dealing, dealing_worth, is_dealing, least_cost
from bestunmoved.errors import InvalidPaper
from bestunmoved.leastwaits import is_bare
from bestunmoved.means import dearest_mean, even_wait
from bestunmoved.permutations import within_worth
from bestunmoved.priceclasses import Prices
from bestunmoved.sharpchecker import lets_cover, lets_sharp
from bestunmoved.sharplots import cover_paper, keeps_lots, lot_worths, sharp_lots, sharp_paper
from tests.helpers import (BIG, NOT_INTEGERS, NOT_NUMBERS, NOT_TUPLES, RING3, Case, chance, kept_tables, slow_kept,
                           slow_rings, slow_worth, small_tables, some_table, with_item)

ONES = ((0, 1, 1), (1, 0, 1), (1, 1, 0))
# Rings (0, 1) of worth 2 and (2, 3) of worth 3, and all four of them of worth 5 or 6.
FOUR = ((0, 1, -9, 2), (1, 0, 2, -9), (-9, 0, 0, 1), (1, -9, 2, 0))


def slow_lot_worths(table):
    """The lot worths by the definition."""
    worths = {}
    for ring in slow_rings(table):
        lot = tuple(sorted(ring))
        worths[lot] = max(worths.get(lot, slow_worth(table, ring)), slow_worth(table, ring))
    return tuple(sorted(worths.items()))


def slow_sharp(table, lot, scales, most):
    """Whether some small waits in a small scale keep all other lots that have a lot worth, but not this one."""
    worths = slow_lot_worths(table)
    for scale in scales:
        for numbers in itertools.product(range(most + 1), repeat=len(table)):
            broken = [other for other, worth in worths if sum(numbers[x] for x in other) < scale * worth]
            if broken == [lot]:
                return True
    return False


def some_other(source, table):
    """The table, or one with one entry less or lacking, or any one of as many doors."""
    if source.random() < 0.2:
        return some_table(source, len(table))
    x, y = source.randrange(len(table)), source.randrange(len(table))
    entry = table[x][y]
    if x == y or entry is None:
        return table
    return with_item(table, x, with_item(table[x], y, source.choice((None, entry - 1, entry - 2, entry + 1))))


class SharpLots(Case):

    def test_examples(self):
        self.same(sharp_lots(ONES), (((0, 1), 2), ((0, 2), 2), ((1, 2), 2)))
        self.same(lot_worths(ONES), (((0, 1), 2), ((0, 1, 2), 3), ((0, 2), 2), ((1, 2), 2)))
        paper = (2, (((0, 1), 1), ((0, 2), 1), ((1, 2), 1)))
        self.same(lets_cover(ONES, (0, 1, 2), paper), 6)
        self.same(cover_paper(ONES, (0, 1, 2)), paper)

    def test_edges(self):
        self.same((lot_worths(((0,),)), sharp_lots(((0,),)), keeps_lots(((0,),), 1, (0,))), ((), (), True))
        empty = ((0, None), (None, 0))
        self.same((lot_worths(empty), sharp_lots(empty), keeps_lots(empty, 5, (0, 0))), ((), (), True))
        self.unusable("lot", sharp_paper, empty, (0, 1))
        # Waits of 0 keep a lot worth at most 0: it is covered by nothing.
        for worth, sharp in ((1, True), (0, False), (-3, False), (BIG, True), (-BIG, False)):
            table = ((0, worth), (0, 0))
            self.same(sharp_lots(table), (((0, 1), worth),) if sharp else ())
            self.same(cover_paper(table, (0, 1)), None if sharp else (1, ()))

    def test_worth_just_reached(self):
        self.same(keeps_lots(RING3, 1, (2, 2, 2)), True)
        self.same(keeps_lots(RING3, 1, (2, 2, 1)), False)
        self.same([keeps_lots(RING3, 3, (6, 6, k)) for k in (5, 6)], [False, True])
        # A lot just covered is not sharp; with one more it is.
        table = ((0, 2, 0), (0, 0, 2), (1, 0, 0))
        self.same(lot_worths(table), (((0, 1), 2), ((0, 1, 2), 5), ((0, 2), 1), ((1, 2), 2)))
        self.same(sharp_lots(table), lot_worths(table))
        flat = ((0, 1, 0), (1, 0, 1), (0, 1, 0))
        self.same(sharp_lots(flat), (((0, 1), 2), ((1, 2), 2)))

    def test_by_definition(self):
        both = [0, 0]
        for table, _ in small_tables(70, 40, most=4):
            worths = slow_lot_worths(table)
            self.same(lot_worths(table), worths)
            for lot, worth in worths:
                sharp = sharp_paper(table, lot)
                cover = cover_paper(table, lot)
                self.assertEqual([sharp is None, cover is None].count(True), 1)
                self.same((lot, worth) in sharp_lots(table), cover is None)
                if sharp is not None:
                    self.same(lets_sharp(table, lot, sharp), sharp[1])
                else:
                    self.assertGreaterEqual(lets_cover(table, lot, cover), cover[0] * worth)
                both[cover is None] += 1
        self.assertGreater(min(both), 20)

    def test_by_small_waits(self):
        for table, _ in small_tables(45, 41, most=3):
            for lot, worth in lot_worths(table):
                self.same((lot, worth) in sharp_lots(table), slow_sharp(table, lot, (1, 2), 12))

    def test_five_doors(self):
        source = chance(42)
        for _ in range(12):
            table = some_table(source, 5, -2, 6, 0.1)
            for lot, worth in lot_worths(table):
                if cover_paper(table, lot) is None:
                    lets_sharp(table, lot, sharp_paper(table, lot))
                    # The lot worth is above every permutation within it that is no ring of all its doors.
                    less = [within_worth(table, small) for small in itertools.combinations(lot, len(lot) - 1)]
                    self.assertGreater(worth, max(less + [0]))
                    self.assertEqual(worth, within_worth(table, lot))
                else:
                    lets_cover(table, lot, cover_paper(table, lot))

    def test_keeps_lots(self):
        for table, waits in small_tables(120, 43):
            self.same(keeps_lots(table, 1, waits), slow_kept(table, waits))
            for scale in (1, 2, 5):
                kept = all(sum(waits[x] for x in lot) >= scale * worth for lot, worth in slow_lot_worths(table))
                self.same(keeps_lots(table, scale, waits), kept)
                # All lots are kept exactly if the sharp ones are.
                self.same(kept, all(sum(waits[x] for x in lot) >= scale * w for lot, w in sharp_lots(table)))

    def test_large_numbers(self):
        table = tuple(tuple(0 if x == y else BIG - abs(x - y) for y in range(5)) for x in range(5))
        for lot, worth in lot_worths(table):
            if (lot, worth) in sharp_lots(table):
                lets_sharp(table, lot, sharp_paper(table, lot))
            else:
                lets_cover(table, lot, cover_paper(table, lot))
        self.same(keeps_lots(table, 10 ** 6, (10 ** 36,) * 5), True)

    def test_best_cover_is_proved_by_its_waits(self):
        source = chance(44)
        for _ in range(200):
            lot = tuple(range(1, 1 + source.randint(2, 5)))
            inner = [(small, source.randint(-4, 9)) for many in range(2, len(lot))
                     for small in itertools.combinations(lot, many) if source.random() < 0.7]
            scale, numbers, waits = best_cover(inner, lot)
            self.assertGreaterEqual(scale, 1)
            self.assertTrue(all(number >= 0 for number in numbers) and all(wait >= 0 for wait in waits))
            for door in lot:
                self.assertLessEqual(sum(n for (small, _), n in zip(inner, numbers) if door in small), scale)
            for small, worth in inner:
                self.assertGreaterEqual(sum(waits[lot.index(door)] for door in small), scale * worth)
            self.assertEqual(cover_worth(inner, numbers), sum(waits))

    def test_wrong(self):
        for value in NOT_NUMBERS + (0,):
            self.unusable("scale", keeps_lots, RING3, value, None)
        for value in NOT_NUMBERS:
            self.unusable("numbers", keeps_lots, RING3, 1, (1, value, 1))
        for value in NOT_TUPLES + ((), (0, 0), (1, 1), [1] * 3, (1,) * 4):
            self.unusable("numbers", keeps_lots, RING3, 1, value)
        lots = NOT_TUPLES + ((), (0,), (0, 1), (0, 2), (2, 1, 0), (0, 1, 2, 3), (0, True, 2), (0, 1, 3), [0, 1, 2])
        for lot in lots:
            for call in (sharp_paper, cover_paper):
                self.unusable("lot", call, RING3, lot)
            for call in (lets_sharp, lets_cover):
                self.unusable("lot", call, RING3, lot, None)


class Checkers(Case):

    def refused(self, word, at, call, *args):
        self.fails(InvalidPaper, (word, at), call, *args)

    def test_sharp(self):
        self.same(lets_sharp(ONES, (0, 2), (1, (0, 2, 1))), (0, 2, 1))
        self.same(lets_sharp(ONES, (0, 2), (2, (1, 4, 2))), (1, 4, 2))
        for thing in NOT_TUPLES + ((), (1,), (1, (0, 2, 1), 0), [1, (0, 2, 1)], ((1, (0, 2, 1)),)):
            self.refused("shape", -1, lets_sharp, ONES, (0, 2), thing)
        for scale in NOT_INTEGERS + (0, -1):
            self.refused("scale", -1, lets_sharp, ONES, (0, 2), (scale, None))
        for numbers in NOT_TUPLES + ((), (0, 2), (0, 2, 1, 1), [0, 2, 1], (0, 2, True), (0, -2, 1), (0, None, 1)):
            self.refused("numbers", -1, lets_sharp, ONES, (0, 2), (1, numbers))
        # Lots are counted as lot_worths tells them: (0, 1), (0, 1, 2), (0, 2), (1, 2).
        self.refused("other", 0, lets_sharp, ONES, (0, 2), (1, (0, 0, 0)))
        self.refused("other", 0, lets_sharp, ONES, (0, 2), (1, (0, 1, 1)))
        self.refused("other", 1, lets_sharp, ONES, (0, 1), (1, (0, 0, 2)))
        self.refused("other", 2, lets_sharp, ONES, (0, 1), (1, (0, 2, 1)))
        self.refused("other", 3, lets_sharp, ONES, (0, 2), (1, (2, 1, 0)))
        self.refused("other", 1, lets_sharp, ONES, (0, 2), (2, (0, 4, 1)))
        self.refused("lot", -1, lets_sharp, ONES, (0, 2), (1, (1, 1, 1)))
        self.refused("other", 0, lets_sharp, ONES, (0, 1, 2), (1, (1, 0, 1)))
        self.refused("lot", -1, lets_sharp, ONES, (0, 1, 2), (1, (1, 1, 1)))

    def test_cover(self):
        lot = (0, 1, 2)
        fine = (2, (((0, 1), 1), ((0, 2), 1), ((1, 2), 1)))
        self.same(lets_cover(ONES, lot, fine), 6)
        self.same(lets_cover(ONES, lot, (6, (((0, 1), 3), ((0, 2), 3), ((1, 2), 3)))), 18)
        for thing in NOT_TUPLES + ((), (2,), fine + (0,), list(fine)):
            self.refused("shape", -1, lets_cover, ONES, lot, thing)
        for scale in NOT_INTEGERS + (0, -1):
            self.refused("scale", -1, lets_cover, ONES, lot, (scale, None))
        for rows in NOT_TUPLES:
            self.refused("rows", -1, lets_cover, ONES, lot, (2, rows))
        rows = fine[1]
        for at in range(3):
            for row in NOT_TUPLES + ((), ((0, 1),), ((0, 1), 1, 1), [(0, 1), 1], ((0, 1), 0), ((0, 1), -1),
                                     ((0, 1), True), ((0, 1), None), ((1, 0), 1), ((0,), 1), ((), 1), ((0, 3), 1),
                                     ((0, True), 1), ([0, 1], 1), (lot, 1), (None, 1), (1, 1), (((0,), 1), 1)):
                self.refused("row", at, lets_cover, ONES, lot, (2, with_item(rows, at, row)))
        self.refused("row", 1, lets_cover, ONES, lot, (2, (rows[0], rows[0], None)))
        self.refused("row", 1, lets_cover, ONES, lot, (2, (rows[1], rows[0], rows[2])))
        self.refused("row", 2, lets_cover, ONES, lot, (2, (rows[0], rows[2], rows[1])))
        # One row more than there are doors, and none at all.
        self.refused("worth", -1, lets_cover, ONES, lot, (2, ()))
        self.refused("row", 0, lets_cover, ONES, (0, 1), (2, rows))
        self.refused("door", 0, lets_cover, ONES, lot, (1, rows))
        self.refused("door", 1, lets_cover, ONES, lot, (2, (((0, 1), 1), ((1, 2), 2))))
        self.refused("door", 2, lets_cover, ONES, lot, (2, (((0, 2), 1), ((1, 2), 2))))
        self.refused("worth", -1, lets_cover, ONES, lot, (2, rows[:2]))
        self.refused("worth", -1, lets_cover, ONES, lot, (3, rows))

    def test_cover_asks_for_a_lot_worth(self):
        # (0, 2) has no ring.
        table = ((0, 1, None), (1, 0, 1), (1, 1, 0))
        self.refused("row", 0, lets_cover, table, (0, 1, 2), (2, (((0, 2), 1),)))
        self.refused("worth", -1, lets_cover, table, (0, 1, 2), (2, (((0, 1), 2),)))
        # An inner lot outside of the lot.
        self.refused("row", 0, lets_cover, FOUR, (0, 1), (2, (((2, 3), 1),)))

    def test_worth_just_covered(self):
        # (0, 1, 2, 3) is worth 6, and so much are (0, 1) and (2, 3) with 3 each; with one less it is not covered.
        table = ((0, 2, None, 1), (1, 0, 2, None), (None, 1, 0, 2), (1, None, 1, 0))
        worths = dict(lot_worths(table))
        self.same((worths[(0, 1)], worths[(2, 3)], worths[(0, 1, 2, 3)]), (3, 3, 7))
        rows = (((0, 1), 1), ((2, 3), 1))
        self.refused("worth", -1, lets_cover, table, (0, 1, 2, 3), (1, rows))
        less = with_item(table, 3, (0, None, 1, 0))
        self.same(lets_cover(less, (0, 1, 2, 3), (1, rows)), 6)


class Alikes(Case):

    def test_by_definition(self):
        source = chance(45)
        alike = 0
        for k in range(150):
            table = some_table(source, 1 + k % 3)
            other = some_other(source, table)
            waits = telling_waits(table, other)
            same = all(slow_kept(table, tried) == slow_kept(other, tried)
                       for tried in itertools.product(range(10), repeat=len(table)))
            self.same((waits is None, waits_alike(table, other)), (same, same))
            alike += same
            if waits is not None:
                self.assertEqual([waits.__class__, len(waits)], [tuple, len(table)])
                self.assertTrue(all(wait.__class__ is int and wait >= 0 for wait in waits))
                self.assertNotEqual(slow_kept(table, waits), slow_kept(other, waits))
        self.assertGreater(alike, 30)

    def test_consequences(self):
        source = chance(46)
        alike = 0
        for k in range(150):
            table = some_table(source, 2 + k % 4)
            other = some_other(source, table)
            same = waits_alike(table, other)
            alike += same
            self.same((waits_alike(other, table), telling_waits(other, table) is None), (same, same))
            self.same(sharp_lots(table) == sharp_lots(other), same)
            lots = [lot for many in range(len(table) + 1) for lot in itertools.combinations(range(len(table)), many)]
            self.same(all(within_worth(table, lot) == within_worth(other, lot) for lot in lots), same)
            if same:
                rates = tuple(source.randint(0, 5) for _ in table)
                self.same(least_cost(table, rates), least_cost(other, rates))
            else:
                waits = telling_waits(table, other)
                self.assertNotEqual(slow_kept(table, waits), slow_kept(other, waits))
        self.assertGreater(alike, 30)

    def test_edges(self):
        self.same((telling_waits(((0,),), ((0,),)), waits_alike(((0,),), ((0,),))), (None, True))
        self.same(waits_alike(((0, 1), (None, 0)), ((0, None), (-5, 0))), True)
        self.same(waits_alike(((0, 1), (-1, 0)), ((0, None), (-5, 0))), True)
        self.same(waits_alike(((0, BIG), (BIG, 0)), ((0, BIG - 1), (BIG, 0))), False)
        waits = telling_waits(((0, BIG), (BIG, 0)), ((0, BIG - 1), (BIG, 0)))
        self.same(sum(waits), 2 * BIG - 1)
        # A ring of three that is covered by rings of two makes no difference.
        self.same(waits_alike(ONES, ((0, 1, 0), (1, 0, 1), (2, 1, 0))), False)
        self.same(waits_alike(ONES, ((0, 2, 1), (0, 0, 1), (1, 1, 0))), False)
        self.same(waits_alike(((0, 1, 0), (1, 0, 1), (0, 1, 0)), ((0, 1, None), (1, 0, 1), (None, 1, 0))), True)

    def test_wrong(self):
        for other in NOT_TUPLES + ((), ((0,),), ((0, 1), (1, 0)), ((0,) * 4,) * 4, list(ONES), ((0, 1),) * 3,
                                   ((1, 1, 1), (1, 0, 1), (1, 1, 0)), ((0, True, 1), (1, 0, 1), (1, 1, 0))):
            for call in (waits_alike, telling_waits):
                self.unusable("other", call, ONES, other)


class PricesObjects(Case):

    def test_by_the_functions(self):
        for table, rates in small_tables(60, 47, most=5):
            prices = Prices(table, rates)
            self.same(prices.cost(), least_cost(table, rates))
            self.same(cost_of(rates, prices.waits()), prices.cost())
            self.assertTrue(slow_kept(table, prices.waits()))
            self.assertTrue(is_dealing(table, rates, prices.dealing()))
            self.same(dealing_worth(table, prices.dealing()), prices.cost())
            self.same(dealing_worth(table, dearest_dealing(table, rates)), prices.cost())
            self.same((prices.mean(), prices.even()), (dearest_mean(table), even_wait(table)))
            self.same(lets_deal(table, rates, prices.paper()), prices.cost())
            self.same(lets_deal(table, rates, deal_paper(table, rates)), prices.cost())
            self.same(prices.told(), (table, rates))

    def test_consequences_of_rates(self):
        source = chance(48)
        for table, rates in small_tables(60, 480, most=4):
            times = source.randint(0, 5)
            others = tuple(source.randint(0, 4) for _ in table)
            self.same(least_cost(table, tuple(times * rate for rate in rates)), times * least_cost(table, rates))
            both = tuple(rate + other for rate, other in zip(rates, others))
            self.assertGreaterEqual(least_cost(table, both), least_cost(table, rates) + least_cost(table, others))
            above = tuple(rate + 1 for rate in rates)
            self.same(is_bare(table, cheapest_waits(table, above)), True)

    def test_equality(self):
        prices = Prices(RING3, (1, 2, 3))
        self.assertTrue(prices == Prices(RING3, (1, 2, 3)))
        self.assertFalse(prices != Prices(RING3, (1, 2, 3)))
        for other in (Prices(RING3, (1, 2, 4)), Prices(ONES, (1, 2, 3)), (RING3, (1, 2, 3)), None, True, 0, "", RING3):
            self.assertFalse(prices == other)
            self.assertTrue(prices != other)

    def test_eight_doors(self):
        table = some_table(chance(49), 8, -9, 9, 0.2)
        prices = Prices(table, (1, 2, 3, 4, 5, 6, 7, 10 ** 6))
        self.same(lets_deal(table, prices.told()[1], prices.paper()), prices.cost())

    def test_wrong(self):
        for table in NOT_TUPLES + ((), ((1,),), ((0, 1),), ((0, True), (0, 0)), [[0]], ([0],)):
            self.unusable("table", Prices, table, None)
        for value in NOT_NUMBERS:
            self.unusable("rates", Prices, RING3, (1, value, 1))
        for rates in NOT_TUPLES + ((), (1, 1), (1,) * 4):
            self.unusable("rates", Prices, RING3, rates)

    def test_kept_tables_have_no_telling_waits_of_their_own(self):
        for table, _ in kept_tables(20, 50):
            self.same(telling_waits(table, table), None)
