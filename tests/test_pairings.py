"""Pairings, lags and pictures: [78], [79], (G10), and [82]."""

import itertools

from bestunmoved.dutykinds import counter_duties, free_duties, lag_duties, prompt_duties
from bestunmoved.errors import InvalidPaper
from bestunmoved.judging import is_kept
from bestunmoved.lags import lags_of, lets_lags
from bestunmoved.pairings import cheapest_pairing, inner_pairing, pairing_cost
from bestunmoved.partings import parts_of
from bestunmoved.partlaw import is_safe
from bestunmoved.pictures import picture_ring
from bestunmoved.tables import kept_table
from tests.helpers import (BIG, NOT_INTEGERS, NOT_NUMBERS, NOT_TUPLES, Case, chance, some_rows, with_item, with_part)
from tests.slowparts import HOP, all_partings, is_more, slow_safe, slow_sum, some_duties, some_parting


def slow_cost(duties, ends, begins, pairing):
    """The cost by the definition; None if it is endless."""
    return slow_sum(duties[ends[i]][begins[pairing[i]]] for i in range(len(ends)))


def slow_pairings(duties, ends, begins, parting=None):
    """All pairings of least cost, within parts if a parting is told."""
    many = range(len(ends))
    fine = [some for some in itertools.permutations(many)
            if parting is None or all(parting[ends[i]] == parting[begins[some[i]]] for i in many)]
    costs = [slow_cost(duties, ends, begins, some) for some in fine]
    return [some for some, cost in zip(fine, costs) if not any(is_more(cost, other) for other in costs)]


def some_ends(source, duties, parting, most=5):
    """Any ends and begins, as many of each in each part."""
    doors = range(len(duties))
    ends = tuple(source.choice(doors) for _ in range(source.randint(0, most)))
    begins = [source.choice([x for x in doors if parting[x] == parting[end]]) for end in ends]
    return ends, tuple(source.sample(begins, len(begins)))


class Pairings(Case):

    def test_by_all_pairings(self):
        source = chance(780)
        endless = 0
        for k in range(400):
            size = 1 + k % 5
            duties = some_duties(source, size, gaps=0.5 if k % 3 == 0 else 0.1)
            parting = some_parting(source, size)
            ends, begins = some_ends(source, duties, parting)
            got = cheapest_pairing(duties, ends, begins)
            want = slow_pairings(duties, ends, begins)
            self.assertIn(got, want)
            self.assertIn(inner_pairing(duties, parting, ends, begins), slow_pairings(duties, ends, begins, parting))
            for pairing in want[:2] + [got]:
                self.same(pairing_cost(duties, ends, begins, pairing), slow_cost(duties, ends, begins, pairing))
            endless += pairing_cost(duties, ends, begins, got) is None
        self.assertGreater(endless, 10)

    def test_edges(self):
        self.same((cheapest_pairing(HOP, (), ()), inner_pairing(HOP, (0, 0, 2), (), ()), pairing_cost(HOP, (), (), ())),
                  ((), (), 0))
        # Seven ends, a door several times.
        ends = (0, 0, 0, 2, 2, 1, 1)
        for begins in (ends, ends[::-1], (1, 1, 1, 0, 0, 2, 2), (0, 1, 2, 0, 1, 2, 0)):
            got = cheapest_pairing(HOP, ends, begins)
            self.assertIn(got, slow_pairings(HOP, ends, begins))
        got = inner_pairing(HOP, (0, 0, 2), ends, ends[::-1])
        self.assertIn(got, slow_pairings(HOP, ends, ends[::-1], (0, 0, 2)))
        # A door's duty several times is more than all duties once.
        duties = ((0, 5, None), (None, 0, None), (7, None, 0))
        self.assertIn(cheapest_pairing(duties, (0, 0, 0, 0), (1, 1, 1, 1)), list(itertools.permutations(range(4))))
        self.same(pairing_cost(duties, (0,) * 4, (1,) * 4, (2, 0, 1, 3)), 20)
        got = cheapest_pairing(duties, (0, 0, 0, 2), (1, 1, 1, 0))
        self.same((pairing_cost(duties, (0, 0, 0, 2), (1, 1, 1, 0), got), got[3]), (22, 3))
        # All are endless: any is of least cost.
        self.assertIn(cheapest_pairing(free_duties(2), (0, 0), (1, 1)), [(0, 1), (1, 0)])
        self.same(pairing_cost(free_duties(2), (0, 0), (1, 1), (1, 0)), None)
        # Within the parts only an endless one.
        self.same(inner_pairing(free_duties(3), (0, 0, 2), (0, 2), (2, 1)), (1, 0))
        big = ((0, BIG), (BIG + 1, 0))
        self.same((cheapest_pairing(big, (0, 1), (1, 0)), pairing_cost(big, (0, 1), (1, 0), (0, 1))),
                  ((1, 0), 2 * BIG + 1))

    def test_safe_exactly_if_none_is_cheaper(self):
        # (G10): for any ends, and as many begins in each part.
        source = chance(781)
        found = [0, 0]
        for _ in range(40):
            duties, parting = some_duties(source, 3, 3, 0.2), source.choice(((0, 0, 2), (0, 1, 0), (0, 1, 1)))
            cheaper = False
            for many in (1, 2, 3):
                for ends in itertools.combinations_with_replacement(range(3), many):
                    for begins in itertools.product(*([x for x in range(3) if parting[x] == parting[e]] for e in ends)):
                        inner = pairing_cost(duties, ends, begins, inner_pairing(duties, parting, ends, begins))
                        least = pairing_cost(duties, ends, begins, cheapest_pairing(duties, ends, begins))
                        cheaper = cheaper or is_more(inner, least)
            found[cheaper] += 1
            self.same(is_safe(duties, parting), not cheaper)
        self.assertGreater(min(found), 5)

    def test_wrong(self):
        for value in NOT_NUMBERS + (3, BIG):
            self.unusable("ends", cheapest_pairing, HOP, (0, value), None)
            self.unusable("begins", cheapest_pairing, HOP, (0, 1), (1, value))
            self.unusable("begins", inner_pairing, HOP, (0, 0, 2), (0, 1), (value, 1))
            self.unusable("pairing", pairing_cost, HOP, (0, 1), (1, 2), (0, value))
        for begins in NOT_TUPLES + ((), (0,), (0, 1, 2)):
            self.unusable("begins", cheapest_pairing, HOP, (0, 1), begins)
        for begins in ((2, 2), (0, 0), (1, 1), (1, 0)):
            self.unusable("begins", inner_pairing, HOP, (0, 0, 2), (0, 2), begins)
        self.unusable("begins", inner_pairing, HOP, (0, 0, 2), (0, 1), (1, 2))
        self.same(inner_pairing(HOP, (0, 0, 2), (0, 2), (2, 0)), (1, 0))
        self.unusable("parting", inner_pairing, HOP, (0, 0, 1), (0, 9), (2, 0))
        self.unusable("ends", inner_pairing, HOP, (0, 0, 2), [0, 2], (2, 0))


def slow_lagged(duties, parting, lags):
    """The first pair of doors whose lags are not as they have to be; None if all are."""
    starts, ends = lags
    many = len(duties)
    for x, y in itertools.product(range(many), repeat=2):
        duty, lag = duties[x][y], starts[x] + ends[y]
        fine = (duty is not None and lag >= duty) if parting[x] == parting[y] else (duty is None or lag <= duty)
        if not fine:
            return x * many + y
    return None


class Lags(Case):

    def test_any_lags(self):
        source = chance(790)
        found = [0, 0]
        for k in range(300):
            size = 1 + k % 5
            duties, parting = some_duties(source, size, 3, 0.1 if k % 2 else 0.4), some_parting(source, size)
            lags = lags_of(duties, parting)
            found[lags is not None] += 1
            if lags is not None:
                self.same(slow_lagged(duties, parting, lags), None)
                self.same(lets_lags(duties, parting, lags), size)
                # (G10): they are safe, too, if there are lags.
                self.same(slow_safe(duties, parting), True)
        self.assertGreater(min(found), 40)

    def test_none_by_small_lags(self):
        # Lags are found exactly if there are small ones, for small duties.
        source = chance(791)
        found = [0, 0]
        for _ in range(60):
            duties, parting = some_duties(source, 3, 2, 0.3), source.choice(((0, 0, 2), (0, 1, 0), (0, 1, 2)))
            small = any(slow_lagged(duties, parting, ((0, a, b), (c, d, e))) is None
                        for a, b, c, d, e in itertools.product(range(-4, 5), repeat=5)
                        if parting[0] != 0 or c >= 0)
            found[small] += 1
            self.same(lags_of(duties, parting) is not None, small)
        self.assertGreater(min(found), 10)

    def test_edges(self):
        for size in (1, 2, 10):
            apart = tuple(range(size))
            self.same(lags_of(prompt_duties(size), (0,) * size) is None, False)
            self.same(lags_of(free_duties(size), apart) is None, False)
            self.same(lags_of(free_duties(size), (0,) * size) is None, size > 1)
        self.same(lags_of(HOP, (0, 0, 2)), None)
        duties = lag_duties((BIG, 0, 3), (0, BIG, 5))
        self.same(lets_lags(duties, (0, 1, 0), ((BIG, 0, 3), (0, BIG, 5))), 3)
        self.same(lets_lags(duties, (0, 1, 0), lags_of(duties, (0, 1, 0))), 3)
        # Safe, but without lags: the duty to itself counts, too.
        self.same((is_safe(((0, 0), (0, 0)), (0, 1)), lags_of(((0, 0), (0, 0)), (0, 1)) is None), (True, False))

    def test_checked(self):
        duties = ((0, 3, 2), (None, 0, None), (4, 1, 0))
        parting = (0, 1, 1)

        def refused(word, at, thing, some=duties, parts=parting):
            self.fails(InvalidPaper, (word, at), lets_lags, some, parts, thing)
        for thing in NOT_TUPLES + ((), ((0,) * 3,), ((0,) * 3,) * 3, [(0,) * 3, (0,) * 3]):
            refused("shape", -1, thing)
        for value in NOT_TUPLES + ((), (0, 0), (0, 0, 0, 0), [0, 0, 0]):
            refused("starts", -1, (value, None))
            refused("ends", -1, ((0, 0, 0), value))
        for at, value in itertools.product(range(3), NOT_INTEGERS):
            refused("starts", -1, (with_item((0, 0, 0), at, value), None))
            refused("ends", -1, ((0, 0, 0), with_item((0, 0, 0), at, value)))
        refused("pair", 0, ((-1, 0, 0), (0, 0, 0)))
        # Endless within a part is above each integer; across nothing is above it.
        refused("pair", 5, ((0, 9, 9), (0, 0, 0)))
        fine = with_part(duties, (1, 2), 2)
        self.same(lets_lags(fine, parting, ((0, 2, 1), (0, 0, 0))), 3)
        self.same(lets_lags(fine, parting, ((-3, 10 ** 40, 1), (3, 0, 0))), 3)
        refused("pair", 1, ((0, 2, 1), (0, 4, 0)), fine)
        refused("pair", 2, ((0, 2, 1), (0, 3, 3)), fine)
        refused("pair", 5, ((0, 1, 1), (0, 0, 0)), fine)
        refused("pair", 6, ((0, 2, 5), (0, 0, 0)), fine)
        refused("pair", 7, ((0, 2, 0), (0, 0, 0)), fine)

    def test_checked_by_definition(self):
        source = chance(792)
        found = [0, 0]
        for _ in range(500):
            size = source.randint(1, 3)
            duties, parting = some_duties(source, size, 3, 0.2), some_parting(source, size)
            lags = tuple(tuple(source.randint(-2, 4) for _ in range(size)) for _ in range(2))
            if source.random() < 0.3:
                lags = lags_of(duties, parting) or lags
            at = slow_lagged(duties, parting, lags)
            found[at is None] += 1
            if at is None:
                self.same(lets_lags(duties, parting, lags), size)
            else:
                self.fails(InvalidPaper, ("pair", at), lets_lags, duties, parting, lags)
        self.assertGreater(min(found), 60)


def is_picture_ring(places, parting, ring):
    """Whether ring is one, by each sentence of [79]."""
    stands = set(zip(parting, places))
    parts, stood = [part for part, _ in ring], [place for _, place in ring]
    return (len(ring) > 1 and len(set(parts)) == len(parts) and len(set(stood)) == len(stood)
            and all(pair in stands for pair in ring)
            and all((part, stood[at - 1]) in stands for at, part in enumerate(parts)))


class Pictures(Case):

    def test_by_definition(self):
        source = chance(793)
        found = [0, 0]
        for _ in range(400):
            size = source.randint(1, 7)
            places = tuple(source.randint(0, 3) for _ in range(size))
            parting = some_parting(source, size, 4)
            got = picture_ring(places, parting)
            names = sorted(set(parting))
            want = [ring for many in range(2, len(names) + 1) for some in itertools.permutations(names, many)
                    for stood in itertools.permutations(sorted(set(places)), many)
                    for ring in [tuple(zip(some, stood))] if is_picture_ring(places, parting, ring)]
            found[want != []] += 1
            if want:
                self.assertIn(got, want)
            else:
                self.same(got, None)
            # [82]: duties by places are safe exactly if there is none.
            self.same(is_safe(counter_duties(places), parting), want == [])
        self.assertGreater(min(found), 30)

    def test_edges(self):
        self.same(picture_ring((7,), (0,)), None)
        self.same(picture_ring((5, 5, 5), (0, 1, 2)), None)
        self.same(picture_ring((5, 6, 5, 6), (0, 0, 2, 2)) in (((0, 5), (2, 6)), ((0, 6), (2, 5)), ((2, 5), (0, 6)),
                                                               ((2, 6), (0, 5))), True)
        self.same(picture_ring((5, 5, 5, 5), (0, 0, 2, 2)), None)
        for size in (1, 3, 4):
            for parting in all_partings(size):
                self.same(picture_ring(tuple(range(size)), parting), None)
        # Ten doors, five parts and places in one ring; without one of them none.
        places = (0, 1, 1, 2, 2, 3, 3, 4, 4, BIG)
        parting = (0, 0, 2, 2, 4, 4, 6, 6, 8, 8)
        self.same(picture_ring(places, parting), None)
        ring = picture_ring(with_item(places, 9, 0), parting)
        self.same((len(ring), is_picture_ring(with_item(places, 9, 0), parting, ring)), (5, True))
        ring = picture_ring(with_item(places, 9, 3), parting)
        self.assertTrue(is_picture_ring(with_item(places, 9, 3), parting, ring))

    def test_wrong(self):
        for parting in NOT_TUPLES + ((), (0, 0), (1, 1, 1), (0, 0, 1), (0, 0, 0, 0)):
            self.unusable("parting", picture_ring, (1, 2, 1), parting)


class Duties(Case):

    def test_waits_part_by_part(self):
        # (G10): if duties are safe, waits are kept exactly if they are within each part, by each such table.
        source = chance(794)
        found = [0, 0]
        for _ in range(400):
            size = source.randint(2, 5)
            parting = some_parting(source, size, 3)
            duties = lag_duties(*(tuple(source.randint(0, 2) for _ in range(size)) for _ in range(2)))
            extra = some_rows(source, size, 0, 4, 0.5)

            def entry(x, y):
                if x == y:
                    return 0
                low = -duties[x][y]
                return low + (extra[x][y] or 0) if parting[x] == parting[y] else low
            table = tuple(tuple(entry(x, y) for y in range(size)) for x in range(size))
            waits = tuple(source.randint(0, 1) for _ in range(size))
            parts = all(is_kept(kept_table(table, lot), tuple(waits[x] for x in lot)) for lot in parts_of(parting))
            self.same(is_kept(table, waits), parts)
            found[parts] += 1
        self.assertGreater(min(found), 40)
