"""Moments surely ahead, barring rings, grains: [27] to [29], and of (G2) and [32] what speaks of them."""

import itertools

from bestunmoved.arcs import ahead_word
from bestunmoved.coarse import coarse_stamps, is_kept_at, least_barred, lets_coarse
from bestunmoved.errors import Barred, InvalidPaper
from bestunmoved.judging import is_kept
from bestunmoved.ringchecker import lets_ring
from bestunmoved.ringpapers import ring_paper
from bestunmoved.rings import is_ring, slack_of
from bestunmoved.sights import hears, sees
from bestunmoved.tables import scaled, table_of
from tests.helpers import (BIG, NOT_INTEGERS, NOT_NUMBERS, NOT_TUPLES, RING3, SHOP, Case, chance, kept_tables, slow_kept,
                           slow_kept_at, small_tables, some_house, some_table, with_item)

PAIR = ((0, 0), (2, 0))


def slow_ahead(table, grain, waits, moment, other):
    """Whether moment is surely ahead of other by the table, as [7] has it."""
    (x, s), (y, u) = moment, other
    if x == y:
        return u > s + grain * waits[x]
    return table[x][y] is not None and u > s + grain * (waits[x] - table[x][y])


class Ahead(Case):

    def test_examples(self):
        self.same(ahead_word(SHOP, 2, (1, 0), (0, 0), (1, 3)), "duty")
        self.same(ahead_word(SHOP, 2, (1, 0), (1, 3), (0, 0)), "sight")

    def test_bounds(self):
        self.same(ahead_word(SHOP, 2, (1, 0), (0, 0), (1, 2)), None)
        self.same(ahead_word(SHOP, 2, (1, 0), (1, 3), (0, -1)), None)
        self.same(ahead_word(SHOP, 2, (1, 0), (0, 5), (0, 8)), "own")
        self.same(ahead_word(SHOP, 2, (1, 0), (0, 5), (0, 7)), None)
        self.same(ahead_word(SHOP, 1, (0, 0), (1, -10 ** 40), (1, -10 ** 40)), None)
        self.same(ahead_word(SHOP, 1, (0, BIG), (1, -10 ** 40), (0, 10 ** 40)), "sight")

    def test_duties_behind_sights(self):
        # Door 1 sees door 0 over a way of 2; its duty to door 0 is 5, that of door 0 to it endless.
        house = SHOP[:3] + (((0, None), (5, 0)),)
        self.same([ahead_word(house, 1, (0, 3), (1, 0), (0, s)) for s in (1, 2, 8, 9)], [None, "sight", "sight", "sight"])
        self.same(ahead_word(house, 1, (0, 3), (0, 0), (1, BIG)), None)
        self.same([ahead_word(house, 2, (0, 3), (0, 0), (0, s)) for s in (0, 1)], [None, "own"])
        # A door that sees itself is ahead of its own later moments by "own" alone.
        house = (((0,),), ("row",), ((0, (0,), (0,)), (0, (), ())), ((0, 4), (None, 0)))
        self.same([ahead_word(house, 1, (1, 0), (0, 0), (0, s)) for s in (1, 2)], [None, "own"])
        self.same([ahead_word(house, 3, (1, 0), (0, 0), (1, s)) for s in (15, 16)], [None, "duty"])

    def test_by_definition(self):
        source = chance(27)
        for _ in range(400):
            house = some_house(source)
            many = len(house[2])
            grain = source.randint(1, 3)
            waits = tuple(source.randint(0, 3) for _ in range(many))
            (x, s), (y, u) = [(source.randrange(many), source.randint(-12, 12)) for _ in range(2)]
            answered = s + grain * waits[x]
            duty = house[3][x][y]
            word = None
            if x == y:
                word = "own" if u > answered else None
            elif sees(house, x, y) and u + grain * hears(house, x, y) > answered:
                word = "sight"
            elif duty is not None and u > answered + grain * duty:
                word = "duty"
            self.same(ahead_word(house, grain, waits, (x, s), (y, u)), word)
            ahead = slow_ahead(table_of(house), grain, waits, (x, s), (y, u))
            self.same(word is not None, ahead, house)

    def test_wrong_moments(self):
        for thing in NOT_TUPLES + ((), (0,), (0, 0, 0), [0, 0], (2, 0), (-1, 0), (True, 0), (0, True), (0, None),
                                   (0, "0"), (0, (0,)), ((0, 0),)):
            self.unusable("moment", ahead_word, SHOP, 1, (0, 0), thing, thing)
            self.unusable("other", ahead_word, SHOP, 1, (0, 0), (0, 0), thing)


class RingPapers(Case):

    def paper_fits(self, table, grain, waits, paper):
        self.assertIs(paper.__class__, tuple)
        self.assertGreaterEqual(len(paper), 2)
        doors = tuple(door for door, _ in paper)
        self.assertEqual(len(set(doors)), len(doors))
        for moment, other in zip(paper, paper[1:] + paper[:1]):
            self.assertIs(moment.__class__, tuple)
            self.assertIs(moment[1].__class__, int)
            self.assertGreaterEqual(moment[1], 0)
            self.assertTrue(slow_ahead(table, grain, waits, moment, other), (table, grain, waits, paper))
        self.same(lets_ring(table, grain, waits, paper), doors)
        self.assertTrue(is_ring(table, doors))
        self.assertLessEqual(grain * slack_of(table, waits, doors) + len(doors), 0)

    def test_by_definition(self):
        for at, (table, waits) in enumerate(small_tables(300, 28, most=5)):
            for grain in (1, 2, 1 + at % 7):
                paper = ring_paper(table, grain, waits)
                if slow_kept_at(table, grain, waits):
                    self.same(paper, None)
                else:
                    self.paper_fits(table, grain, waits, paper)

    def test_edges(self):
        self.same(ring_paper(((0,),), 10 ** 6, (0,)), None)
        self.same(ring_paper(PAIR, 1, (1, 0)), None)
        self.paper_fits(PAIR, 2, (1, 0), ring_paper(PAIR, 2, (1, 0)))
        table = ((0, BIG), (BIG, 0))
        self.paper_fits(table, 10 ** 6, (0, BIG), ring_paper(table, 10 ** 6, (0, BIG)))
        self.same(ring_paper(table, 10 ** 6, (BIG, BIG)), None)

    def test_eight_doors(self):
        source = chance(281)
        found = 0
        while found < 20:
            table = some_table(source, 8, -12, 6, 0.5)
            waits = tuple(source.randint(0, 6) for _ in range(8))
            paper = ring_paper(table, 8, waits)
            self.same(paper is None, is_kept(table, waits))
            if paper is not None:
                found += 1
                self.paper_fits(table, 8, waits, paper)


class LetsRing(Case):

    def refused(self, fault, thing, table=PAIR, grain=2, waits=(1, 0)):
        self.fails(InvalidPaper, fault, lets_ring, table, grain, waits, thing)

    def test_example(self):
        self.same(lets_ring(PAIR, 2, (1, 0), ((0, 0), (1, 3))), (0, 1))
        self.same(lets_ring(PAIR, 2, (1, 0), ((1, 3), (0, 0))), (1, 0))

    def test_shape(self):
        for thing in NOT_TUPLES + ((), ((0, 0),), [(0, 0), (1, 3)]):
            self.refused(("shape", -1), thing)

    def test_elements(self):
        for step in NOT_TUPLES + ((), (0,), (0, 0, 0)):
            self.refused(("step", 0), (step, step))
            self.refused(("step", 1), ((0, 0), step))
            self.refused(("step", 2), ((0, 0), (1, 3), step))
        for door in NOT_NUMBERS + (2, BIG):
            self.refused(("door", 0), ((door, None), (1, 3)))
            self.refused(("door", 1), ((0, 0), (door, 3)))
        self.refused(("door", 1), ((0, 0), (0, 3)))
        self.refused(("door", 2), ((0, 0), (1, 3), (0, 0)))
        for moment in NOT_NUMBERS:
            self.refused(("moment", 0), ((0, moment), (0, moment)))
            self.refused(("moment", 1), ((0, 0), (1, moment)))

    def test_ahead(self):
        self.refused(("ahead", 0), ((0, 0), (1, 2)))
        self.refused(("ahead", 1), ((0, 0), (1, 4)))
        self.refused(("ahead", 0), ((0, 0), (1, 3)), grain=3)
        self.refused(("ahead", 0), ((0, 0), (1, 3)), waits=(2, 0))
        # No entry: never ahead, however late.
        self.refused(("ahead", 1), ((0, 0), (1, 3)), table=((0, 0), (None, 0)))
        self.refused(("ahead", 0), ((0, 0), (2, BIG), (1, 0)), table=RING3, waits=(0, 0, 0))
        self.same(lets_ring(RING3, 1, (1, 1, 1), ((0, 1), (1, 0), (2, 1))), (0, 1, 2))
        self.refused(("ahead", 0), ((0, 2), (1, 0), (2, 1)), table=RING3, grain=1, waits=(1, 1, 1))
        self.refused(("ahead", 1), ((0, 1), (1, 1), (2, 1)), table=RING3, grain=1, waits=(1, 1, 1))
        self.refused(("ahead", 2), ((0, 1), (1, 0), (2, 2)), table=RING3, grain=1, waits=(1, 1, 1))

    def test_by_definition(self):
        source = chance(282)
        for table, waits in small_tables(400, 283, most=3):
            many = len(table)
            if many < 2:
                continue
            grain = source.randint(1, 3)
            doors = source.sample(range(many), source.randint(2, many))
            thing = tuple((door, source.randint(0, 8)) for door in doors)
            behind = [k for k in range(len(thing))
                      if not slow_ahead(table, grain, waits, thing[k], thing[(k + 1) % len(thing)])]
            if behind:
                self.refused(("ahead", behind[0]), thing, table, grain, waits)
            else:
                self.same(lets_ring(table, grain, waits, thing), tuple(doors))
                self.same(is_kept_at(table, grain, waits), False)


class Grains(Case):

    def test_examples(self):
        self.same([is_kept_at(RING3, 1, (2, 1, 1)), is_kept_at(RING3, 1, (1, 1, 1))], [True, False])
        self.same(least_barred(RING3, (2, 1, 1)), 2)
        self.same(coarse_stamps(RING3, 1, (2, 1, 1)), (1, 2, 0))

    def test_one_door(self):
        self.same((is_kept_at(((0,),), 10 ** 6, (0,)), least_barred(((0,),), (0,))), (True, None))
        self.same((coarse_stamps(((0,),), 5, (0,)), lets_coarse(((0,),), 5, (0,), (-3,))), ((0,), 1))

    def test_by_definition(self):
        for table, waits in small_tables(300, 29, most=5):
            many = len(table)
            kept = [slow_kept_at(table, grain, waits) for grain in range(1, many + 3)]
            self.same([is_kept_at(table, grain, waits) for grain in range(1, many + 3)], kept)
            self.same(least_barred(table, waits), 1 + kept.index(False) if False in kept else None)
            # From the number of doors on, the grain makes no difference; barred stays barred.
            self.same(kept, sorted(kept, reverse=True))
            self.same(len(set(kept[many - 1:])), 1)
            self.same(is_kept_at(table, 10 ** 6, waits), slow_kept(table, waits))
            self.same(is_kept_at(table, many, waits), is_kept(table, waits))
            for grain in (1, 2, 3):
                times = tuple(grain * wait for wait in waits)
                self.same(is_kept_at(scaled(table, grain), 1, times), kept[grain - 1] if grain <= many + 2 else None)

    def test_least_barred_of_eight(self):
        doors = range(8)
        table = tuple(tuple(0 if x == y else (1 if y == (x + 1) % 8 else None) for y in doors) for x in doors)
        self.same(least_barred(table, (1,) * 8), None)
        self.same(least_barred(table, (1,) * 7 + (0,)), 8)
        self.same(least_barred(table, (1,) * 6 + (0, 0)), 4)
        self.same(least_barred(table, (0,) * 8), 1)

    def bounds(self, table, grain, waits):
        many = len(table)
        return [(x, y, many * (grain * (waits[x] - table[x][y]) + 1) - 1)
                for x in range(many) for y in range(many) if x != y and table[x][y] is not None]

    def test_coarse_stamps(self):
        for at, (table, waits) in enumerate(small_tables(200, 291, most=3)):
            grain = 1 + at % 3
            if not slow_kept_at(table, grain, waits):
                with self.assertRaises(Barred) as held:
                    coarse_stamps(table, grain, waits)
                ring = held.exception.ring
                self.assertTrue(is_ring(table, ring))
                self.assertLessEqual(grain * slack_of(table, waits, ring) + len(ring), 0)
                continue
            bounds = self.bounds(table, grain, waits)
            least = coarse_stamps(table, grain, waits)
            self.assertTrue(all(least[x] - least[y] <= most for x, y, most in bounds))
            self.assertEqual(min(least), 0)
            self.same(lets_coarse(table, grain, waits, least), len(table))
            if max(least) < 12:
                for stamps in itertools.product(range(max(least) + 1), repeat=len(table)):
                    if all(stamps[x] - stamps[y] <= most for x, y, most in bounds):
                        self.assertTrue(all(a <= b for a, b in zip(least, stamps)))

    def test_least_coarse_of_many(self):
        for table, waits in kept_tables(60, 292, most=5):
            for grain in (1, 4, 10 ** 6):
                least = coarse_stamps(table, grain, waits)
                bounds = self.bounds(table, grain, waits)
                self.assertEqual(min(least), 0)
                self.assertTrue(all(least[x] - least[y] <= most for x, y, most in bounds))
                for z, stamp in enumerate(least):
                    if stamp > 0:
                        self.assertTrue(any(y == z and least[x] - stamp == most for x, y, most in bounds))

    def test_barred_at_the_grain(self):
        # Kept at grain 1 and barred at 2.
        self.same(lets_coarse(RING3, 1, (2, 1, 1), (1, 2, 0)), 3)
        with self.assertRaises(Barred) as held:
            coarse_stamps(RING3, 2, (2, 1, 1))
        self.assertEqual(sorted(held.exception.ring), [0, 1, 2])

    def test_barred_ring_at_the_grain_only(self):
        # Ring (0, 1) lacks one and does not bar at grain 1; ring (2, 3) lacks two and does.
        table = ((0, 1, None, None), (0, 0, None, None), (None, None, 0, 2), (None, None, 0, 0))
        with self.assertRaises(Barred) as held:
            coarse_stamps(table, 1, (0, 0, 0, 0))
        self.assertEqual(sorted(held.exception.ring), [2, 3])
        self.assertEqual(sorted(door for door, _ in ring_paper(table, 1, (0, 0, 0, 0))), [2, 3])

    def test_lets_coarse(self):
        source = chance(293)
        for table, waits in small_tables(300, 294, most=4):
            grain = source.randint(1, 3)
            many = len(table)
            stamps = tuple(source.randint(-9, 9) for _ in range(many))
            wrong = [x * many + y for x, y, most in self.bounds(table, grain, waits) if stamps[x] - stamps[y] > most]
            if wrong:
                self.fails(InvalidPaper, ("pair", wrong[0]), lets_coarse, table, grain, waits, stamps)
            else:
                self.same(lets_coarse(table, grain, waits, stamps), many)
        for thing in NOT_TUPLES + ((), (1, 2), (1, 2, 0, 0), [1, 2, 0]):
            self.fails(InvalidPaper, ("shape", -1), lets_coarse, RING3, 1, (2, 1, 1), thing)
        for value in NOT_INTEGERS:
            for x in range(3):
                self.fails(InvalidPaper, ("stamp", x), lets_coarse, RING3, 1, (2, 1, 1), with_item((9, 9, 9), x, value))
