"""Dealings and cheapest waits: [33] to [35], and of (G7) and [42] what speaks of them."""

import itertools

from bestunmoved.cheapwaits import cheapest_waits, cost_of, deal_paper
from bestunmoved.dealchecker import lets_deal
from bestunmoved.dealings import dealing_worth, dearest_dealing, is_dealing, least_cost
from bestunmoved.errors import InvalidPaper
from bestunmoved.houses import house_of
from bestunmoved.judging import is_kept
from bestunmoved.leastwaits import is_bare
from bestunmoved.stamps import suits
from bestunmoved.tables import table_of
from tests.helpers import (BIG, NOT_INTEGERS, NOT_NUMBERS, NOT_TUPLES, RING3, SHOP, Case, chance, slow_dealings,
                           slow_dealt, slow_kept, slow_suits, small_tables, some_table, with_part)

# The deal paper of the document, by rates of 1.
PAPER = ((3, 1, 2), (0, 0, 0), ((0, 1, 0), (0, 0, 1), (1, 0, 0)))


def rated_tables(count, seed, most=3, top=3):
    """Tables with rates, among them 0."""
    source = chance(seed)
    for table, _ in small_tables(count, seed, most):
        yield table, tuple(source.randint(0, top) for _ in table)


class Dealings(Case):

    def test_by_definition(self):
        for table, rates in rated_tables(40, 33, top=2):
            many = len(table)
            dealings = set(slow_dealings(table, rates))
            for flat in itertools.product(range(3), repeat=many * many):
                thing = tuple(flat[x * many:x * many + many] for x in range(many))
                if many < 3 or sum(flat) == sum(rates):
                    self.same(is_dealing(table, rates, thing), thing in dealings, table, rates, thing)

    def test_own_numbers(self):
        # What a door deals to itself counts, at an entry of 0.
        self.same(is_dealing(((0,),), (4,), ((4,),)), True)
        self.same(is_dealing(((0,),), (0,), ((0,),)), True)
        self.same(is_dealing(((0, 5), (1, 0)), (2, 2), ((1, 1), (1, 1))), True)
        self.same(dealing_worth(((0, 5), (1, 0)), ((1, 1), (1, 1))), 6)

    def test_other_values(self):
        for thing in NOT_TUPLES + ((), ((0, 1, 0), (0, 0, 1)), ((0, 1, 0), (0, 0, 1), [1, 0, 0]),
                                   [(0, 1, 0), (0, 0, 1), (1, 0, 0)], ((0, 1, 0), (0, 0, 1), (1, 0)),
                                   ((0, 1, 0), (0, 0, 1), (1, 0, 0, 0)), ((0, 1, 0), (0, 0, 1), (1, 0, 0), (0, 0, 0))):
            self.same(is_dealing(RING3, (1, 1, 1), thing), False, thing)
            self.unusable("dealing", dealing_worth, RING3, thing)
        for value in NOT_NUMBERS:
            for x, y in ((0, 0), (0, 1), (2, 0), (0, 2)):
                thing = with_part(PAPER[2], (x, y), value)
                self.same(is_dealing(RING3, (1, 1, 1), thing), False, thing)
                self.unusable("dealing", dealing_worth, RING3, thing)
        self.same(is_dealing(RING3, (1, 1, 1), PAPER[2]), True)

    def test_where_there_is_no_entry(self):
        thing = ((0, 0, 1), (1, 0, 0), (0, 1, 0))
        self.same(is_dealing(RING3, (1, 1, 1), thing), False)
        self.unusable("dealing", dealing_worth, RING3, thing)

    def test_worth_whatever_it_adds_up_to(self):
        self.same(dealing_worth(RING3, ((9, 2, 0), (0, 0, BIG), (1, 0, 7))), 6 + BIG + 2)
        self.same(dealing_worth(RING3, ((0, 0, 0),) * 3), 0)
        self.same(dealing_worth(((0, -3), (None, 0)), ((0, 5), (0, 0))), -15)

    def test_dearest_by_definition(self):
        for table, rates in rated_tables(150, 331):
            most = max(slow_dealt(table, dealing) for dealing in slow_dealings(table, rates))
            dearest = dearest_dealing(table, rates)
            self.same(is_dealing(table, rates, dearest), True)
            self.same(dealing_worth(table, dearest), most)
            self.same(least_cost(table, rates), most)

    def test_examples_and_edges(self):
        self.same(least_cost(RING3, (2, 1, 3)), 6)
        self.same((dearest_dealing(((0,),), (10 ** 6,)), least_cost(((0,),), (10 ** 6,))), (((10 ** 6,),), 0))
        self.same(dearest_dealing(RING3, (0, 0, 0)), ((0, 0, 0),) * 3)
        self.same(least_cost(((0, BIG), (BIG, 0)), (10 ** 6, 3)), 6 * BIG)
        self.same(least_cost(((0, -BIG), (-BIG, 0)), (10 ** 6, 3)), 0)

    def test_eight_doors(self):
        source = chance(332)
        for k in range(12):
            table = some_table(source, 8, -9, 9, 0.3)
            rates = tuple(source.choice((0, 1, source.randint(0, 10 ** 6))) for _ in range(8))
            # The paper proves itself, since no kept waits cost less than a dealing is worth.
            waits, stamps, dealing = deal_paper(table, rates)
            self.same(is_dealing(table, rates, dealing), True)
            self.assertTrue(slow_suits(table, waits, stamps))
            self.assertTrue(min(waits) >= 0)
            worth = slow_dealt(table, dealing)
            self.same((cost_of(rates, waits), least_cost(table, rates)), (worth, worth))
            self.same(dealing_worth(table, dearest_dealing(table, rates)), worth)

    def test_rates_times_and_added(self):
        source = chance(333)
        for table, rates in rated_tables(80, 334, most=4):
            other = tuple(source.randint(0, 4) for _ in rates)
            times = source.randint(1, 9)
            cost = least_cost(table, rates)
            self.same(least_cost(table, tuple(times * rate for rate in rates)), times * cost)
            both = least_cost(table, tuple(a + b for a, b in zip(rates, other)))
            self.assertGreaterEqual(both, cost + least_cost(table, other))


class CheapestWaits(Case):

    def test_by_trying(self):
        for table, rates in rated_tables(80, 34):
            cheapest = cheapest_waits(table, rates)
            self.assertTrue(slow_kept(table, cheapest))
            self.assertTrue(all(wait >= 0 for wait in cheapest))
            cost = cost_of(rates, cheapest)
            self.same(cost, least_cost(table, rates))
            most = max(cheapest) + 3
            for waits in itertools.product(range(most), repeat=len(table)):
                if cost_of(rates, waits) < cost:
                    self.assertFalse(slow_kept(table, waits))

    def test_bare_by_rates_above_0(self):
        for table, rates in rated_tables(120, 341, most=5):
            rates = tuple(rate + 1 for rate in rates)
            self.assertTrue(is_bare(table, cheapest_waits(table, rates)))

    def test_paper(self):
        for table, rates in rated_tables(120, 342, most=5):
            paper = deal_paper(table, rates)
            self.assertIs(paper.__class__, tuple)
            waits, stamps, dealing = paper
            self.assertTrue(suits(table, waits, stamps))
            self.assertTrue(is_kept(table, waits))
            self.same(is_dealing(table, rates, dealing), True)
            self.same(cost_of(rates, waits), dealing_worth(table, dealing))
            self.same(lets_deal(table, rates, paper), least_cost(table, rates))

    def test_edges(self):
        self.same(cheapest_waits(((0,),), (1,)), (0,))
        self.same(cost_of((), ()), 0)
        self.same(cost_of((10 ** 6, 0), (BIG, BIG)), 10 ** 36)
        waits = cheapest_waits(((0, BIG), (BIG, 0)), (1, 2))
        self.same(waits, (2 * BIG, 0))
        self.assertTrue(is_kept(RING3, cheapest_waits(RING3, (0, 0, 0))))
        for waits in NOT_TUPLES + ((), (1,), (1, 2, 3), (1, -1), (True, 0), (None, 0)):
            self.unusable("waits", cost_of, (1, 2), waits)

    def test_uniform_house(self):
        # Duties of 0 and one way: the way times the most that a dealing has at sights, by waits of 0, 1 and 2 ways.
        source = chance(343)
        for _ in range(30):
            places = source.randint(2, 3)
            ways = tuple(tuple(0 if p == q else 5 for q in range(places)) for p in range(places))
            many = source.randint(1, 3)
            doors = tuple((source.randrange(places), source.choice(((), (0,))), source.choice(((), (0,))))
                          for _ in range(many))
            house = house_of(ways, ("lot",), doors, ((0,) * many,) * many)
            table = table_of(house)
            rates = tuple(source.randint(0, 2) for _ in range(many))
            far = [[5 if x != y and table[x][y] else 0 for y in range(many)] for x in range(many)]
            most = max(slow_dealt(far, dealing) for dealing in slow_dealings(table, rates))
            costs = [cost_of(rates, waits) for waits in itertools.product((0, 5, 10), repeat=many)
                     if slow_kept(table, waits)]
            self.same((least_cost(table, rates), min(costs)), (most, most))
        self.same(cheapest_waits(table_of(SHOP), (1, 3)), (2, 0))


class LetsDeal(Case):

    def refused(self, word, thing, rates=(1, 1, 1)):
        self.fails(InvalidPaper, (word, -1), lets_deal, RING3, rates, thing)

    def test_example(self):
        self.same(lets_deal(RING3, (1, 1, 1), PAPER), 6)

    def test_words(self):
        for thing in NOT_TUPLES + ((), PAPER[:2], PAPER + (0,), list(PAPER)):
            self.refused("shape", thing)
        for waits in NOT_TUPLES + ((), (3, 1), (3, 1, 2, 0), [3, 1, 2]):
            self.refused("waits", (waits,) + PAPER[1:])
        for value in NOT_NUMBERS:
            self.refused("waits", with_part(PAPER, (0, 1), value))
        for stamps in NOT_TUPLES + ((), (0, 0), (0, 0, 0, 0), [0, 0, 0]):
            self.refused("stamps", with_part(PAPER, (1,), stamps))
        for value in NOT_INTEGERS:
            self.refused("stamps", with_part(PAPER, (1, 1), value))
        self.refused("suit", with_part(PAPER, (0, 0), 2))
        self.refused("suit", with_part(PAPER, (1, 1), -1))
        self.same(lets_deal(RING3, (1, 1, 1), with_part(PAPER, (1,), (-7, -7, -7))), 6)
        for dealing in NOT_TUPLES + ((), PAPER[2][:2], with_part(PAPER[2], (0, 1), 2), with_part(PAPER[2], (0, 1), True),
                                     ((0, 0, 1), (1, 0, 0), (0, 1, 0)), ((1, 0, 0), (0, 0, 1), (0, 0, 0))):
            self.refused("dealing", with_part(PAPER, (2,), dealing))
        self.refused("dealing", PAPER, (1, 1, 2))
        self.refused("cost", with_part(PAPER, (2,), ((1, 0, 0), (0, 1, 0), (0, 0, 1))))
        self.refused("cost", with_part(PAPER, (0, 0), 4))

    def test_first_of_two(self):
        wrong = [((0,), (3, 1), "waits"), ((1,), (0, 0), "stamps"), ((1,), (3, 0, 0), "suit"), ((2,), (), "dealing"),
                 ((2,), ((1, 0, 0), (0, 1, 0), (0, 0, 1)), "cost")]
        for one, other in itertools.combinations(wrong, 2):
            if one[0] != other[0]:
                self.refused(one[2], with_part(with_part(PAPER, one[0], one[1]), other[0], other[1]))

    def test_cost_by_rates(self):
        waits, stamps, dealing = deal_paper(RING3, (2, 1, 3))
        self.same(lets_deal(RING3, (2, 1, 3), (waits, stamps, dealing)), 6)
        self.same(lets_deal(((0,),), (3,), ((0,), (5,), ((3,),))), 0)
        self.fails(InvalidPaper, ("cost", -1), lets_deal, ((0,),), (3,), ((1,), (5,), ((3,),)))
        # A door of rate 0 may wait for nothing.
        self.same(lets_deal(((0,),), (0,), ((7,), (5,), ((0,),))), 0)
