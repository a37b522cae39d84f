"""Doors at once and uniform houses: [39], and of (G7), (G8) and [42] what speaks of them."""

import itertools

from bestunmoved.atonce import at_once_lots, at_once_waits, may_at_once
from bestunmoved.cheapwaits import cost_of
from bestunmoved.dealings import least_cost
from bestunmoved.permutations import within_worth
from bestunmoved.sights import far_pairs
from bestunmoved.tables import table_of
from bestunmoved.uniform import is_uniform, sight_most, uniform_waits
from tests.helpers import (BIG, LONE, NOT_NUMBERS, NOT_TUPLES, RING3, SHOP, Case, big_house, chance, slow_dealings,
                           slow_kept, slow_rings, slow_worth, small_tables, some_house, some_lot)


def lots_below(many):
    """All lots of many things."""
    return [lot for size in range(many + 1) for lot in itertools.combinations(range(many), size)]


def slow_may(table, lot):
    """Whether no ring within the lot is worth more than 0."""
    return all(slow_worth(table, ring) <= 0 for ring in slow_rings(table) if set(ring) <= set(lot))


def uniform_house(source, doors=4, places=3):
    """Any uniform house."""
    stood = source.randint(1, places)
    way = source.randint(0, 3)
    ways = tuple(tuple(0 if p == q else way for q in range(stood)) for p in range(stood))
    many = source.randint(1, doors)
    stands = tuple((source.randrange(stood), some_lot(source, 3), some_lot(source, 3)) for _ in range(many))
    return (ways, ("row", "lot", "row"), stands, ((0,) * many,) * many)


class AtOnce(Case):

    def test_by_definition(self):
        for table, _ in small_tables(80, 39, most=5):
            many = len(table)
            free = []
            for lot in lots_below(many):
                may = slow_may(table, lot)
                self.same(may_at_once(table, lot), may)
                self.same(may, within_worth(table, lot) == 0)
                if may:
                    free.append(lot)
                    waits = at_once_waits(table, lot)
                    self.assertEqual([len(waits), waits.__class__], [many, tuple])
                    self.assertTrue(all(waits[x] == 0 if x in lot else waits[x] >= 0 for x in range(many)))
                    self.assertTrue(slow_kept(table, waits))
                else:
                    self.unusable("lot", at_once_waits, table, lot)
            most = [lot for lot in free if not any(set(lot) < set(other) for other in free)]
            self.same(at_once_lots(table), tuple(sorted(most)))

    def test_small_waits(self):
        # Some waits of 0 for the lot, and others not above the numbers of the table, are kept just where it may.
        for table, _ in small_tables(60, 390, most=3):
            for lot in lots_below(len(table)):
                tried = itertools.product(*((0,) if x in lot else range(13) for x in range(len(table))))
                self.same(may_at_once(table, lot), any(slow_kept(table, waits) for waits in tried))

    def test_edges(self):
        self.same((may_at_once(RING3, ()), at_once_lots(((0,),))), (True, ((0,),)))
        self.same(at_once_lots(RING3), ((0, 1), (0, 2), (1, 2)))
        self.assertTrue(slow_kept(RING3, at_once_waits(RING3, ())))
        self.same(at_once_waits(((0,),), (0,)), (0,))
        # A ring worth just 0, and one worth one more.
        self.same((may_at_once(((0, BIG), (-BIG, 0)), (0, 1)), may_at_once(((0, BIG), (1 - BIG, 0)), (0, 1))),
                  (True, False))
        waits = at_once_waits(((0, BIG), (BIG, 0)), (1,))
        self.assertEqual(waits[1], 0)
        self.assertGreaterEqual(waits[0], 2 * BIG)

    def test_wrong_lots(self):
        for lot in NOT_TUPLES + ((3,), (1, 0), (0, 0), (True,), (None,), (-1,), ((0,),)):
            self.unusable("lot", may_at_once, RING3, lot)
            self.unusable("lot", at_once_waits, RING3, lot)


class Uniform(Case):

    def test_examples(self):
        self.same(uniform_waits(SHOP, (1, 3)), (2, 0))
        self.same((is_uniform(SHOP), sight_most(SHOP, (1, 3))), (True, 1))

    def test_is_uniform(self):
        self.same(is_uniform(LONE), True)
        self.same(is_uniform(big_house()), False)
        for ways, duties, want in [
                (((0, 2), (2, 0)), ((0, 0), (0, 0)), True), (((0, 2), (3, 0)), ((0, 0), (0, 0)), False),
                (((0, 0), (0, 0)), ((0, 0), (0, 0)), True), (((0, BIG), (BIG, 0)), ((0, 0), (0, 0)), True),
                (((0, None), (2, 0)), ((0, 0), (0, 0)), False), (((0, 2), (2, 0)), ((0, 1), (0, 0)), False),
                (((0, 2), (2, 0)), ((0, None), (0, 0)), False)]:
            self.same(is_uniform((ways, (), ((0, (), ()), (0, (), ())), duties)), want)
        # Nobody sees anybody over the lacking ways, and still there is no such number.
        self.same(is_uniform((((0, None), (None, 0)), (), ((0, (), ()),), ((0,),))), False)
        self.same(is_uniform((((0, 1, 1), (1, 0, 1), (1, 2, 0)), (), ((0, (), ()),), ((0,),))), False)

    def test_sight_most(self):
        source = chance(391)
        for _ in range(120):
            house = some_house(source, doors=3)
            rates = tuple(source.randint(0, 2) for _ in house[2])
            sums = [sum(dealing[x][y] for x, y in far_pairs(house)) for dealing in slow_dealings(table_of(house), rates)]
            self.same(sight_most(house, rates), max(sums))

    def test_uniform_waits(self):
        source = chance(392)
        for _ in range(200):
            house = uniform_house(source, 5)
            self.same(is_uniform(house), True)
            rates = tuple(source.randint(0, 3) for _ in house[2])
            way = house[0][0][1] if len(house[0]) > 1 else 0
            waits = uniform_waits(house, rates)
            self.assertEqual([waits.__class__, len(waits)], [tuple, len(rates)])
            self.assertTrue(all(wait in (0, way, 2 * way) for wait in waits), (house, waits))
            self.assertTrue(slow_kept(table_of(house), waits))
            self.same(cost_of(rates, waits), least_cost(table_of(house), rates))
            self.same(cost_of(rates, waits), way * sight_most(house, rates))

    def test_two_ways(self):
        # A door in the midst of others that see it, and that it sees, waits two ways.
        house = (((0, 5, 5), (5, 0, 5), (5, 5, 0)), ("lot", "lot"),
                 ((0, (0,), (1,)), (1, (1,), (0,)), (2, (1,), (0,))), ((0,) * 3,) * 3)
        self.same(uniform_waits(house, (1, 5, 5)), (10, 0, 0))
        self.same(sight_most(house, (1, 5, 5)), 2)

    def test_large_numbers(self):
        house = (((0, BIG), (BIG, 0)),) + SHOP[1:]
        waits = uniform_waits(house, (10 ** 6, 10 ** 6))
        self.assertEqual(sorted(waits), [0, BIG])
        self.same(sight_most(house, (10 ** 6, 10 ** 6)), 10 ** 6)

    def test_wrong(self):
        late = (SHOP[0], SHOP[1], SHOP[2], ((0, 1), (0, 0)))
        self.unusable("house", uniform_waits, late, (1, 1))
        # The house is asked first.
        self.unusable("house", uniform_waits, late, None)
        for value in NOT_NUMBERS:
            self.unusable("rates", uniform_waits, SHOP, (1, value))
            self.unusable("rates", sight_most, SHOP, (value, 1))
        self.unusable("rates", sight_most, late, (1,))
