"""Hours surely ahead, dayrows kept or barred, least rows: [67] to [70], (G9), and [72]."""

import itertools

from bestunmoved.dayarcs import answer_hour, day_word, first_ahead
from bestunmoved.dayhouses import dayhouse_of, longest_house, same_day, same_rows
from bestunmoved.dayjudge import day_kept, day_ring, day_stamps
from bestunmoved.daykinds import is_dayhouse, is_dayrows
from bestunmoved.daypapers import lets_day_ring, lets_day_stamps
from bestunmoved.delays import ship_delays
from bestunmoved.errors import Barred, InvalidPaper
from bestunmoved.coarse import is_kept_at
from bestunmoved.leastrows import least_row, lowered_rows, rows_bare
from bestunmoved.leastwaits import least_wait
from bestunmoved.tables import table_of
from tests.helpers import (BIG, LONE, NOT_INTEGERS, NOT_NUMBERS, NOT_TUPLES, Case, chance, some_house, with_item,
                           with_part)
from tests.slowdeeds import seen_house
from tests.slowdays import (CIRCLE, FERRY, LEAST, NONE, slow_answer, slow_day_kept, slow_day_rings, slow_day_suits,
                            slow_day_word, slow_first, slow_least_row, some_day_stamps, some_dayhouse, some_dayrows,
                            some_days)

LONE_DAY = same_day(LONE, 2)


def days_of(dayhouse):
    """All hours of a day of all doors."""
    return itertools.product(range(len(dayhouse[3])), range(dayhouse[0]))


def twofold(dayhouse):
    """The dayhouse with two of its days told as one."""
    ways = tuple(tuple(None if one is None else one + one for one in row) for row in dayhouse[1])
    return (2 * dayhouse[0], ways) + dayhouse[2:]


class Arcs(Case):

    def test_answers(self):
        for dayhouse, dayrows in some_days(60, 670):
            for door, hour in itertools.product(range(len(dayhouse[3])), range(-9, 10)):
                self.same(answer_hour(dayhouse, dayrows, door, hour), slow_answer(dayhouse, dayrows, (door, hour)))
        self.same(answer_hour(FERRY, LEAST, 1, -3), -1)
        self.same(answer_hour(FERRY, LEAST, 1, -4 * BIG), 3 - 4 * BIG)

    def test_words_by_definition(self):
        words = {}
        for dayhouse, dayrows in some_days(60, 671):
            doors = range(len(dayhouse[3]))
            for x, y, h, k in itertools.product(doors, doors, range(-4, 5, 2), range(-9, 10)):
                got = day_word(dayhouse, dayrows, (x, h), (y, k))
                self.same(got, slow_day_word(dayhouse, dayrows, (x, h), (y, k)))
                words[got] = words.get(got, 0) + 1
        self.same(sorted(map(str, words)), ["None", "duty", "own", "sight"])
        self.assertGreater(min(words.values()), 300)

    def test_words_at_the_edges(self):
        # The looker of 1, answered at 1: the writer's letter of -2 comes at 0, that of -1 at 3.
        self.same([day_word(FERRY, NONE, (1, 1), (0, k)) for k in (-2, -1, 0, 1, 2)], [None] + ["sight"] * 4)
        # The duty of 0 from the writer to the looker: more than that, behind the answer.
        self.same([day_word(FERRY, NONE, (0, 5), (1, k)) for k in (4, 5, 6)], [None, None, "duty"])
        self.same([day_word(FERRY, LEAST, (1, 4), (1, k)) for k in (4, 6, 7, 8)], [None, None, None, "own"])
        # The way counts for what is seen alone, and the duty only where the way is not enough.
        both = with_part(FERRY, (4, 1, 0), 0)
        self.same(day_word(both, ((0,) * 4, (9,) * 4), (1, 0), (0, 9)), "sight")
        far = with_item(FERRY, 1, (((0,) * 4, (0,) * 4), ((2,) * 4, (0,) * 4)))
        self.same([day_word(far, NONE, (1, 0), (0, k)) for k in (0, 1)], [None, "sight"])
        self.same(day_word(with_part(FERRY, (4, 0, 1), None), NONE, (0, 0), (1, 99)), None)

    def test_firsts_by_definition(self):
        nones = own = 0
        for dayhouse, dayrows in some_days(150, 672):
            doors = range(len(dayhouse[3]))
            for x, y, h in itertools.product(doors, doors, range(-5, 6)):
                got = first_ahead(dayhouse, dayrows, (x, h), y)
                self.same(got, slow_first(dayhouse, dayrows, (x, h), y))
                nones += got is None
                if x == y:
                    own += 1
                    self.same(got, slow_answer(dayhouse, dayrows, (x, h)) + 1)
                # It is so of all later ones.
                if got is not None:
                    self.assertTrue(all(day_word(dayhouse, dayrows, (x, h), (y, got + k)) for k in range(9)))
        self.assertGreater(min(nones, own), 100)

    def test_firsts_of_great_numbers(self):
        big = with_part(FERRY, (1, 0, 1), (BIG + 3, BIG + 2, BIG + 1, BIG + 4))
        self.same(first_ahead(big, NONE, (1, 1), 0), -1 - BIG)
        self.same(first_ahead(big, NONE, (1, 1 + 4 * BIG), 0), -1 + 3 * BIG)
        self.same(first_ahead(big, with_item(NONE, 0, (BIG,) * 4), (0, 0), 1), BIG + 1)
        self.same(first_ahead(LONE_DAY, ((BIG, 0),), (0, 7), 0), 8)

    def test_wrong(self):
        for value in NOT_NUMBERS + (2,):
            for one in ((value, 0), [0, 0], (0, 0, 0)):
                self.unusable("one", day_word, FERRY, NONE, one, None)
                self.unusable("other", day_word, FERRY, NONE, (0, 0), one)
                self.unusable("one", first_ahead, FERRY, NONE, one, None)
            self.unusable("door", first_ahead, FERRY, NONE, (0, 0), value)
        for value in NOT_INTEGERS:
            self.unusable("one", first_ahead, FERRY, NONE, (0, value), 0)
            self.unusable("other", day_word, FERRY, NONE, (0, 0), (1, value))


class Kept(Case):

    def test_by_all_rings(self):
        found = [0, 0]
        for dayhouse, dayrows in some_days(400, 680, most=2):
            want = slow_day_kept(dayhouse, dayrows)
            found[want] += 1
            self.same(day_kept(dayhouse, dayrows), want)
            self.asked_whole(dayhouse, dayrows, want)
        self.assertGreater(min(found), 60)

    def asked_whole(self, dayhouse, dayrows, kept):
        """A ring is a barring one, stamps suit: one of both (G9)."""
        ring = day_ring(dayhouse, dayrows)
        if kept:
            self.same(ring, None)
            stamps = day_stamps(dayhouse, dayrows)
            self.same(lets_day_stamps(dayhouse, dayrows, stamps), stamps)
            self.same(slow_day_suits(dayhouse, dayrows, stamps), None)
            return
        self.same(lets_day_ring(dayhouse, dayrows, ring), tuple(door for door, _ in ring))
        self.assertGreaterEqual(min(hour for _, hour in ring), 0)
        self.assertTrue(all(slow_day_word(dayhouse, dayrows, one, other)
                            for one, other in zip(ring, ring[1:] + ring[:1])))
        self.same(len({door for door, _ in ring}), len(ring))
        with self.assertRaises(Barred) as held:
            day_stamps(dayhouse, dayrows)
        lets_day_ring(dayhouse, dayrows, held.exception.ring)
        with self.assertRaises(Barred) as held:
            lowered_rows(dayhouse, dayrows, tuple(range(len(dayrows))))
        lets_day_ring(dayhouse, dayrows, held.exception.ring)

    def test_more_doors(self):
        source = chance(681)
        found = [0, 0]
        while min(found) < 12:
            dayhouse = some_dayhouse(source, days=2, doors=4)
            if len(dayhouse[3]) < 4:
                continue
            dayrows = some_dayrows(source, dayhouse, source.choice((0, 1, 5)))
            found[slow_day_kept(dayhouse, dayrows)] += 1
            self.asked_whole(dayhouse, dayrows, slow_day_kept(dayhouse, dayrows))

    def test_a_great_day(self):
        # Five doors and twenty-four hours.
        source = chance(682)
        ships = [ship_delays(24, tuple((source.randrange(24), source.randint(0, 9)) for _ in range(3)))
                 for _ in range(20)]
        ways = tuple(tuple((0,) * 24 if p == q else ships.pop() for q in range(5)) for p in range(5))
        dayhouse = dayhouse_of(24, ways, ("row",) * 5, tuple((x, (x,), ((x + 1) % 5, (x + 2) % 5)) for x in range(5)),
                               ((0,) * 5,) * 5)
        rows = same_rows(24, (80,) * 5)
        stamps = day_stamps(dayhouse, rows)
        self.same(lets_day_stamps(dayhouse, rows, stamps), stamps)
        least = lowered_rows(dayhouse, rows, (4, 2, 0, 1, 3))
        self.assertTrue(is_dayrows(dayhouse, least) and rows_bare(dayhouse, least))
        at = max(range(120), key=lambda k: least[k // 24][k % 24])
        barred = with_part(least, (at // 24, at % 24), least[at // 24][at % 24] - 1)
        self.same(len(lets_day_ring(dayhouse, barred, day_ring(dayhouse, barred))) > 1, True)
        self.assertIn(at // 24, [door for door, _ in day_ring(dayhouse, barred)])

    def test_edges(self):
        self.same((day_kept(LONE_DAY, ((0, 0),)), day_ring(LONE_DAY, ((0, 0),))), (True, None))
        self.same(lets_day_stamps(LONE_DAY, ((0, 0),), ((0, 0),)), ((0, 0),))
        # Handing on that helps at one hour alone: kept with just these delays, barred at one hour.
        self.same([day_kept(FERRY, with_part(LEAST, (1, hour), LEAST[1][hour] - 1)) for hour in range(3)], [False] * 3)
        self.same(day_kept(FERRY, with_part(LEAST, (1, 3), 9)), True)
        # The writer may wait for the looker.
        self.same(day_kept(FERRY, ((2, 1, 0, 3), (0, 0, 0, 0))), True)
        self.same(day_kept(FERRY, ((2, 1, 0, 2), (0, 0, 0, 0))), False)
        long = with_part(FERRY, (1, 0, 1), (BIG + 3, BIG + 2, BIG + 1, BIG + 4))
        self.same([day_kept(long, (NONE[0], (BIG + 3, BIG + 2, BIG + 1, BIG - k))) for k in (0, 1)], [True, False])
        with self.assertRaises(Barred) as held:
            day_stamps(long, NONE)
        lets_day_ring(long, NONE, held.exception.ring)
        self.unusable("order", lowered_rows, FERRY, NONE, (0, 0))

    def test_the_same_at_all_hours(self):
        # (G9): kept exactly if the house's waits are at grain 1.
        source = chance(683)
        found = [0, 0]
        for _ in range(200):
            house = seen_house(source, doors=4)
            waits = tuple(source.randint(0, 1) for _ in house[2])
            day = source.randint(1, 3)
            kept = is_kept_at(table_of(house), 1, waits)
            found[kept] += 1
            self.same(day_kept(same_day(house, day), same_rows(day, waits)), kept)
        self.assertGreater(min(found), 20)

    def test_longest_ships_and_two_days(self):
        # [72]: kept in the longest house, kept by the hours; one ship more never bars, nor a day told as two.
        source = chance(684)
        kept = 0
        for dayhouse, dayrows in some_days(200, 685):
            waits = tuple(max(row) for row in dayrows)
            if is_kept_at(table_of(longest_house(dayhouse)), 1, waits):
                self.assertTrue(day_kept(dayhouse, same_rows(dayhouse[0], waits)))
            twice = twofold(dayhouse)
            self.assertTrue(is_dayhouse(twice))
            self.same(day_kept(twice, tuple(row + row for row in dayrows)), day_kept(dayhouse, dayrows))
            for door in range(len(dayrows)):
                least = least_row(dayhouse, dayrows, door)
                self.same(least_row(twice, tuple(row + row for row in dayrows), door),
                          None if least is None else least + least)
        for _ in range(150):
            day = source.randint(1, 5)
            ships = tuple((source.randrange(day), source.randint(0, 6)) for _ in range(source.randint(1, 3)))
            houses = [with_item(FERRY, 0, day)[:1] + ((((0,) * day, ship_delays(day, some)), (None, (0,) * day)),)
                      + FERRY[2:] for some in (ships, ships + ((source.randrange(day), source.randint(0, 6)),))]
            rows = (tuple(source.randint(0, 2) for _ in range(day)), tuple(source.randint(0, 9) for _ in range(day)))
            if day_kept(houses[0], rows):
                kept += 1
                self.assertTrue(day_kept(houses[1], rows))
        self.assertGreater(kept, 20)


class Papers(Case):

    def refused(self, word, at, thing, dayhouse=FERRY, dayrows=NONE):
        self.fails(InvalidPaper, (word, at), lets_day_ring, dayhouse, dayrows, thing)

    def test_ring(self):
        self.same(lets_day_ring(FERRY, NONE, ((1, -3), (0, -4))), (1, 0))
        self.same(lets_day_ring(FERRY, NONE, ((0, 4 * BIG), (1, 1 + 4 * BIG))), (0, 1))
        for thing in NOT_TUPLES + ((), ((0, 0),), [(0, 0), (1, 1)]):
            self.refused("shape", -1, thing)
        for value in NOT_TUPLES + ((), (0,), (0, 0, 0), [1, 1]):
            self.refused("step", 0, (value, value))
            self.refused("step", 1, ((0, 0), value))
        for value in NOT_NUMBERS + (2, BIG):
            self.refused("door", 0, ((value, 0), (1, 1)))
            self.refused("door", 1, ((0, 0), (value, None)))
        self.refused("door", 1, ((0, 0), (0, 1)))
        self.refused("door", 2, ((0, 0), (1, 1), (0, 0)))
        for value in NOT_INTEGERS:
            self.refused("hour", 0, ((0, value), (1, 1)))
            self.refused("hour", 1, ((0, 0), (1, value)))
        # All checks of one step before those of the next one.
        self.refused("hour", 0, ((0, None), 7))
        self.refused("door", 0, ((5, None), 7))
        self.refused("step", 1, ((0, 0), 7, (0, None)))
        self.refused("ahead", 0, ((0, 0), (1, 0)))
        self.refused("ahead", 0, ((0, 0), (1, 0)), dayrows=LEAST)
        self.refused("ahead", 1, ((0, -4), (1, 1)))
        self.refused("ahead", 1, ((0, 0), (1, 1)), dayrows=LEAST)

    def test_ring_by_definition(self):
        source = chance(690)
        fine = 0
        for dayhouse, dayrows in some_days(150, 691):
            rings = list(itertools.islice(slow_day_rings(dayhouse, dayrows), 40))
            for ring in rings:
                self.same(lets_day_ring(dayhouse, dayrows, ring), tuple(x for x, _ in ring))
                fine += 1
            doors = source.sample(range(len(dayrows)), source.randint(1, len(dayrows)))
            ring = tuple((x, source.randint(-3, 6)) for x in doors)
            words = [slow_day_word(dayhouse, dayrows, one, other) for one, other in zip(ring, ring[1:] + ring[:1])]
            if len(ring) > 1 and None in words:
                self.refused("ahead", words.index(None), ring, dayhouse, dayrows)
        self.assertGreater(fine, 200)

    def test_stamps(self):
        def refused(word, at, thing, dayhouse=FERRY, dayrows=LEAST):
            self.fails(InvalidPaper, (word, at), lets_day_stamps, dayhouse, dayrows, thing)
        for thing in NOT_TUPLES + ((), NONE[:1], NONE + NONE[:1], list(NONE)):
            refused("shape", -1, thing)
        for at in range(2):
            for row in NOT_TUPLES + ((), (0,) * 3, (0,) * 5, [0] * 4):
                refused("row", at, with_item(NONE, at, row))
            for value in NOT_INTEGERS:
                refused("row", at, with_part(NONE, (at, 3), value))
        refused("row", 0, (None, None))
        # The looker of 3 is answered at 3, surely ahead of the writer's deed of 3.
        refused("pair", 1, NONE)
        refused("pair", 0, ((9, 0, 0, 0), (0, 0, 0, 0)))
        refused("pair", 0, ((9, 0, 0, 0), (0, 0, 0, -1)))

    def test_stamps_by_definition(self):
        source = chance(692)
        found = [0, 0]
        for dayhouse, dayrows in some_days(250, 693):
            stamps = some_day_stamps(source, dayhouse)
            if day_kept(dayhouse, dayrows) and source.random() < 0.7:
                fine = day_stamps(dayhouse, dayrows)
                at = source.randrange(len(dayrows))
                stamps = with_part(fine, (at, 0), fine[at][0] + source.randint(-2, 2))
            door = slow_day_suits(dayhouse, dayrows, stamps)
            found[door is None] += 1
            if door is None:
                self.same(lets_day_stamps(dayhouse, dayrows, stamps), stamps)
            else:
                self.fails(InvalidPaper, ("pair", door), lets_day_stamps, dayhouse, dayrows, stamps)
        self.assertGreater(min(found), 30)


class Least(Case):

    def test_by_lowering_wait_by_wait(self):
        rows = nones = 0
        for dayhouse, dayrows in some_days(45, 700):
            for door in range(len(dayrows)):
                high = with_item(dayrows, door, (99,) * dayhouse[0])
                got = least_row(dayhouse, dayrows, door)
                if not slow_day_kept(dayhouse, high):
                    self.same(got, None)
                    nones += 1
                else:
                    self.same(got, slow_least_row(dayhouse, dayrows, door))
                    rows += len(set(got)) > 1
        self.assertGreater(rows, 10)
        self.assertGreater(nones, 3)

    def test_put_in(self):
        # [72]: put in it leaves them kept, with a wait of it one less they are barred; its own row is not looked at.
        for dayhouse, dayrows in some_days(120, 701, most=6):
            for door in range(len(dayrows)):
                least = least_row(dayhouse, dayrows, door)
                self.same(least_row(dayhouse, with_item(dayrows, door, (0,) * dayhouse[0]), door), least)
                if least is None:
                    continue
                kept = with_item(dayrows, door, least)
                self.assertTrue(day_kept(dayhouse, kept))
                for hour, wait in enumerate(least):
                    if wait > 0:
                        self.assertFalse(day_kept(dayhouse, with_part(kept, (door, hour), wait - 1)))

    def test_lowered_and_bare(self):
        source = chance(702)
        bare = [0, 0]
        for dayhouse, dayrows in some_days(150, 703, most=9):
            if not day_kept(dayhouse, dayrows):
                self.same(rows_bare(dayhouse, dayrows), False)
                continue
            order = tuple(source.sample(range(len(dayrows)), len(dayrows)))
            got = lowered_rows(dayhouse, dayrows, order)
            now = dayrows
            for door in order:
                now = with_item(now, door, least_row(dayhouse, now, door))
            self.same(got, now)
            self.same(rows_bare(dayhouse, got), True)
            self.assertTrue(all(one <= other for low, high in zip(got, dayrows) for one, other in zip(low, high)))
            want = not any(day_kept(dayhouse, with_part(dayrows, (x, h), less))
                           for x, h in days_of(dayhouse) for less in range(dayrows[x][h]))
            self.same(rows_bare(dayhouse, dayrows), want)
            bare[want] += 1
        self.assertGreater(bare[0], 40)
        self.same((rows_bare(FERRY, LEAST), rows_bare(FERRY, NONE)), (True, False))
        self.same(rows_bare(FERRY, with_part(LEAST, (1, 3), 1)), False)

    def test_edges(self):
        self.same(least_row(LONE_DAY, ((BIG, 9),), 0), (0, 0))
        self.same(lowered_rows(LONE_DAY, ((BIG, 9),), (0,)), ((0, 0),))
        self.same(least_row(FERRY, NONE, 0), (2, 1, 0, 3))
        self.same(least_row(FERRY, LEAST, 0), (0, 0, 0, 0))
        # The ring without the door bars it: two others of which one looks at the other.
        three = with_item(with_item(FERRY, 3, FERRY[3] + ((0, (), ()),)), 4, ((0,) * 3,) * 3)
        self.same(least_row(three, NONE + NONE[:1], 2), None)
        self.same(least_row(three, LEAST + NONE[:1], 2), (0, 0, 0, 0))
        long = with_part(FERRY, (1, 0, 1), (BIG + 3, BIG + 2, BIG + 1, BIG + 4))
        self.same(least_row(long, NONE, 1), (BIG + 3, BIG + 2, BIG + 1, BIG))
        self.same(is_dayhouse(CIRCLE), True)

    def test_as_least_wait_at_grain_one(self):
        source = chance(704)
        for _ in range(120):
            house = some_house(source)
            waits = tuple(source.randint(0, 4) for _ in house[2])
            rows = same_rows(2, waits)
            for door in range(len(waits)):
                got = least_row(same_day(house, 2), rows, door)
                least = least_wait(table_of(house), waits, door)
                if got is not None:
                    self.same(got[0], got[1])
                    self.assertTrue(is_kept_at(table_of(house), 1, with_item(waits, door, got[0])))
                    self.assertTrue(least is None or got[0] <= least)
                    if got[0] > 0:
                        self.assertFalse(is_kept_at(table_of(house), 1, with_item(waits, door, got[0] - 1)))
