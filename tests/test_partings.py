"""Partings, safe duties, what shows that duties are not safe, houses and histories that count against them: [73]-[76]."""

import itertools

from bestunmoved.counters import counter_history, counter_house
from bestunmoved.dutykinds import counter_duties, free_duties, lag_duties, prompt_duties
from bestunmoved.errors import InvalidPaper
from bestunmoved.historychanges import history_kept
from bestunmoved.historychecker import lets_history
from bestunmoved.housechecker import lets_house
from bestunmoved.judging import is_kept
from bestunmoved.orders import deed_ring, order_of
from bestunmoved.partchecker import lets_unsafe
from bestunmoved.partedhouses import kept_house
from bestunmoved.partings import is_parting, parting_by, parts_of
from bestunmoved.partlaw import is_safe, unsafe_paper
from bestunmoved.sights import sees
from bestunmoved.tables import kept_table, table_of
from tests.helpers import (BIG, NOT_NUMBERS, NOT_TUPLES, Case, chance, slow_kept, with_item, with_part)
from tests.slowparts import (HOP, all_partings, is_more, slow_across, slow_safe, slow_unsafe, slow_within, some_duties,
                             some_parting)


def some_partings(count, seed, most=5, high=4, gaps=0.25):
    """As many duties with partings."""
    source = chance(seed)
    for k in range(count):
        size = 1 + k % most
        yield some_duties(source, size, high, gaps), some_parting(source, size)


def near_safe(source, size):
    """Safe duties, by lags, but for some that are less or more by a little."""
    duties = lag_duties(tuple(source.randint(0, 3) for _ in range(size)), tuple(source.randint(0, 3) for _ in range(size)))
    for _ in range(source.randint(0, 3)):
        x, y = source.randrange(size), source.randrange(size)
        if x != y:
            span = source.choice((None, duties[x][y] or 0, (duties[x][y] or 0) + 1, max(0, (duties[x][y] or 0) - 1)))
            duties = with_part(duties, (x, y), span)
    return duties


class Partings(Case):

    def test_by_definition(self):
        for size in range(5):
            fine = set(all_partings(size))
            for thing in itertools.product(range(size + 1), repeat=size):
                self.same(is_parting(size, thing), thing in fine)
        self.same((is_parting(0, ()), is_parting(1, (0,)), is_parting(10, tuple(range(10)))), (True, True, True))

    def test_edges(self):
        for thing in NOT_TUPLES + ((), (0,), (0, 0), (0, 0, 0, 0), [0, 0, 0], (1, 1, 1), (0, 0, 1), (0, 2, 2), (2, 1, 2),
                                   (0, 1, 3), (0, 1, -1), (1, 0, 2), (0, 1, (0,))):
            self.same(is_parting(3, thing), False)
        for at, value in itertools.product(range(3), NOT_NUMBERS):
            self.same(is_parting(3, with_item((0, 0, 0), at, value)), False)
        self.same([is_parting(3, thing) for thing in ((0, 0, 0), (0, 1, 0), (0, 0, 2), (0, 1, 1), (0, 1, 2))], [True] * 5)

    def test_parts(self):
        for size in range(5):
            for parting in all_partings(size):
                lots = tuple(tuple(at for at in range(size) if parting[at] == name) for name in sorted(set(parting)))
                self.same(parts_of(parting), lots)
                for some in itertools.permutations(lots):
                    self.same(parting_by(size, some), parting)
        self.same(parts_of(()), ())
        self.same(parting_by(0, ()), ())

    def test_wrong_lots(self):
        for lots in NOT_TUPLES + ((), ((0, 1),), ((0, 1, 2), ()), ((), (0, 1, 2)), ((0, 1), (1, 2)), ((0, 2, 1),),
                                  ((0, 1, 2, 3),), ((0, 1), (3,)), ((0, 1), [2]), [(0, 1, 2)], ((0, 1), (2, 2)), (0, 1, 2),
                                  ((0, 1), (2,), (2,)), ((0, 1), (2,), ())):
            self.unusable("lots", parting_by, 3, lots)
        for value in NOT_NUMBERS + (3, BIG):
            self.unusable("lots", parting_by, 3, ((0, 1), (value,)))
            self.unusable("lots", parting_by, 3, ((0, 1), value))
        self.unusable("lots", parting_by, 0, ((),))


class Safe(Case):

    def test_by_definition(self):
        found = [0, 0]
        source = chance(740)
        some = list(some_partings(300, 741)) + list(some_partings(100, 742, 5, 1, 0.5))
        some += [(near_safe(source, 4), some_parting(source, 4)) for _ in range(200)]
        for duties, parting in some:
            want = slow_safe(duties, parting)
            found[want] += 1
            self.same(is_safe(duties, parting), want)
            self.asked_whole(duties, parting, unsafe_paper(duties, parting), want)
        self.assertGreater(min(found), 100)

    def asked_whole(self, duties, parting, paper, safe):
        """A paper exactly if they are not safe, and then by each of its sentences."""
        if safe:
            self.same(paper, None)
            return
        self.assertIn(paper, list(slow_unsafe(duties, parting)))
        self.same(lets_unsafe(duties, parting, paper), (slow_within(duties, paper), slow_across(duties, paper)))

    def test_many_parts(self):
        # Six parts, and ten doors.
        source = chance(743)
        found = [0, 0]
        for k in range(20):
            parting = (0, 1, 2, 3, 4, 0) if k % 2 else (0, 1, 2, 0, 1)
            duties = near_safe(source, len(parting))
            want = slow_safe(duties, parting)
            found[want] += 1
            self.asked_whole(duties, parting, unsafe_paper(duties, parting), want)
        self.assertGreater(min(found), 1)
        parting = (0, 1, 2, 3, 4, 5, 0, 1, 2, 3)
        lags = lag_duties(tuple(range(10)), (5,) * 10)
        self.same(is_safe(lags, parting), True)
        for x in range(10):
            less = with_part(lags, (x, (x + 1) % 10), lags[x][(x + 1) % 10] - 1)
            paper = unsafe_paper(less, parting)
            if paper is not None:
                within, across = lets_unsafe(less, parting, paper)
                self.assertGreater(within, across)
        self.same(is_safe(with_part(lags, (0, 6), None), parting), False)

    def test_turns_of_many_parts(self):
        # Only all parts in turn show it: from each door on to the next one alone a duty that is too small.
        for many in range(2, 7):
            size = 2 * many
            if size > 10:
                continue
            parting = tuple(x - x % 2 for x in range(size))
            rows = [[0 if x == y else 3 if parting[x] == parting[y] else None for y in range(size)] for x in range(size)]
            for k in range(many):
                rows[2 * k][(2 * k + 3) % size] = 3 if k else 2
            duties = tuple(map(tuple, rows))
            paper = unsafe_paper(duties, parting)
            self.same(lets_unsafe(duties, parting, paper), (3 * many, 3 * many - 1))
            self.same(len(paper), many)
            just = with_part(duties, (0, 3 % size), 3)
            self.same((is_safe(just, parting), unsafe_paper(just, parting)), (True, None))

    def test_edges(self):
        # One part alone; each door its own part: 0 is never above.
        for duties, _ in some_partings(60, 744):
            size = len(duties)
            self.same(is_safe(duties, (0,) * size), True)
            self.same(is_safe(duties, tuple(range(size))), True)
        # Endless within, endless across, and both.
        pair = (0, 0, 2)
        for rows, safe in (
                (((0, None, 5), (9, 0, 9), (9, 9, 0)), False), (((0, None, None), (9, 0, 9), (9, 9, 0)), True),
                (((0, None, 5), (9, 0, 9), (9, None, 0)), True), (((0, 9, None), (9, 0, 9), (9, 9, 0)), True),
                (((0, 5, 2), (5, 0, 5), (5, 3, 0)), True), (((0, 6, 2), (5, 0, 5), (5, 3, 0)), False)):
            self.same(is_safe(rows, pair), safe)
        big = ((0, 2 * BIG, BIG), (None, 0, None), (None, BIG, 0))
        self.same(is_safe(big, pair), True)
        self.same(unsafe_paper(with_part(big, (0, 1), 2 * BIG + 1), pair) is None, False)

    def test_lags_and_counters(self):
        source = chance(745)
        for k in range(80):
            size = 1 + k % 6
            numbers = [tuple(source.randint(0, 9) for _ in range(size)) for _ in range(2)]
            parting = some_parting(source, size)
            # [82]: duties by lags are safe for each parting; so are those that are all 0, or all endless.
            for duties in (lag_duties(*numbers), prompt_duties(size)):
                self.same(is_safe(duties, parting), True)
            if size <= 4:
                for duties in (free_duties(size), counter_duties(numbers[0])):
                    self.same(is_safe(duties, parting), slow_safe(duties, parting))


class Checked(Case):

    def refused(self, word, at, thing, duties=HOP, parting=(0, 0, 2)):
        self.fails(InvalidPaper, (word, at), lets_unsafe, duties, parting, thing)

    def test_words(self):
        fine = ((0, 1), (2, 2))
        for thing in NOT_TUPLES + ((), fine[:1], list(fine)):
            self.refused("shape", -1, thing)
        for value in NOT_TUPLES + ((), (0,), (0, 0, 0), [0, 0]):
            self.refused("pair", 0, (value, value))
            self.refused("pair", 1, (fine[0], value))
        for value in NOT_NUMBERS + (3, BIG):
            self.refused("pair", 0, ((value, 0), None))
            self.refused("pair", 0, ((0, value), None))
            self.refused("pair", 1, (fine[0], (2, value)))
        self.refused("part", 0, ((0, 2), (2, 2)))
        self.refused("part", 1, ((0, 1), (1, 2)))
        self.refused("part", 1, ((0, 1), (1, 1)))
        self.refused("part", 1, ((0, 1), (0, 1)))
        self.refused("part", 2, (fine[1], fine[0], fine[1]))
        # All checks of one pair before those of the next one.
        self.refused("part", 0, ((0, 2), 7))
        self.refused("pair", 1, ((0, 1), (3, 2)))
        self.refused("across", -1, ((1, 0), (2, 2)))
        self.refused("across", -1, ((1, 1), (2, 2)))
        self.refused("safe", -1, ((0, 0), (2, 2)), prompt_duties(3))
        self.refused("safe", -1, fine, with_part(HOP, (0, 1), 2))
        self.same(lets_unsafe(with_part(HOP, (0, 1), None), (0, 0, 2), fine), (None, 2))
        # Both endless: across is asked first.
        self.refused("across", -1, fine, with_part(with_part(HOP, (0, 1), None), (0, 2), None))

    def test_by_definition(self):
        source = chance(750)
        fine = 0
        for duties, parting in some_partings(900, 751, gaps=0.1):
            size = len(duties)
            for _ in range(6):
                thing = tuple((source.randrange(size), source.randrange(size)) for _ in range(source.randint(2, 3)))
                names = [parting[end] for end, _ in thing]
                wrong = [k for k, (e, b) in enumerate(thing) if parting[e] != parting[b] or names[k] in names[:k]]
                within, across = slow_within(duties, thing), slow_across(duties, thing)
                if wrong:
                    self.refused("part", wrong[0], thing, duties, parting)
                elif across is None:
                    self.refused("across", -1, thing, duties, parting)
                elif not is_more(within, across):
                    self.refused("safe", -1, thing, duties, parting)
                else:
                    self.same(lets_unsafe(duties, parting, thing), (within, across))
                    fine += 1
        self.assertGreater(fine, 10)


class Counters(Case):

    def asked(self, duties, parting):
        """Each sentence of [76]."""
        size = len(duties)
        house, waits = counter_house(duties, parting)
        self.is_such(house, duties, parting)
        self.same([isinstance(wait, int) and wait >= 0 for wait in waits], [True] * size)
        table = table_of(house)
        self.same(is_kept(table, waits), False)
        if size < 6:
            self.same(slow_kept(table, waits), False)
        for lot in parts_of(parting):
            some = tuple(waits[x] for x in lot)
            self.same(is_kept(table_of(kept_house(house, lot)), some), True)
            self.same(slow_kept(kept_table(table, lot), some), True)
        house, grain, history = counter_history(duties, parting)
        self.is_such(house, duties, parting)
        lets_history(house, history)
        self.same(order_of(house, grain, history), None)
        self.assertGreater(len(deed_ring(house, grain, history)), 1)
        self.same(grain, size)
        for lot in parts_of(parting):
            part = history_kept(house, history, lot)
            self.assertIsNotNone(order_of(kept_house(house, lot), grain, part))

    def is_such(self, house, duties, parting):
        """A house with these duties, no door of which sees one of another part."""
        self.same(lets_house(house), len(duties))
        self.same(house[3], duties)
        for x, y in itertools.product(range(len(duties)), repeat=2):
            self.assertFalse(parting[x] != parting[y] and sees(house, x, y))

    def test_by_each_sentence(self):
        source = chance(760)
        asked = endless = 0
        some = list(some_partings(250, 761)) + [(near_safe(source, 5), some_parting(source, 5)) for _ in range(150)]
        for duties, parting in some:
            if is_safe(duties, parting):
                self.same((counter_house(duties, parting), counter_history(duties, parting)), (None, None))
                continue
            asked += 1
            endless += slow_within(duties, unsafe_paper(duties, parting)) is None
            self.asked(duties, parting)
        self.assertGreater(min(asked - endless, endless), 20)

    def test_edges(self):
        self.asked(HOP, (0, 0, 2))
        self.asked(with_part(HOP, (0, 1), None), (0, 0, 2))
        self.asked(((0, 2 * BIG + 1, BIG), (None, 0, None), (None, BIG, 0)), (0, 0, 2))
        # Ten doors, five parts in turn; each part with a third duty that is less than the one back.
        parting = (0, 0, 2, 2, 4, 4, 6, 6, 8, 8)
        rows = [[0 if x == y else 3 if parting[x] == parting[y] else None for y in range(10)] for x in range(10)]
        for k in range(5):
            rows[2 * k][(2 * k + 3) % 10] = 3 if k else 2
        self.asked(tuple(map(tuple, rows)), parting)
        # A door beside by which the way round is shorter than the duty back.
        self.asked(((0, 9, 1, 0), (0, 0, 1, 0), (1, 1, 0, 5), (9, 1, 9, 0)), (0, 0, 0, 3))
        for duties, parting in ((HOP, (0, 1, 2)), (HOP, (0, 0, 0)), (((0,),), (0,))):
            self.same((counter_house(duties, parting), counter_history(duties, parting)), (None, None))

    def test_twice(self):
        self.same(counter_house(HOP, (0, 0, 2)), counter_house(HOP, (0, 0, 2)))
        self.same(counter_history(HOP, (0, 0, 2)), counter_history(HOP, (0, 0, 2)))
