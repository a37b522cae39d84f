"""Histories, their faults and what is forced: [43] to [46], and of [52] what speaks of them."""

import itertools

from bestunmoved.errors import InvalidPaper, Misshown
from bestunmoved.forced import forced_pairs, forced_words
from bestunmoved.historychecker import lets_history
from bestunmoved.historykinds import first_fault, is_deeds, is_history
from tests.helpers import (BIG, LONE, NOT_INTEGERS, NOT_NUMBERS, NOT_TUPLES, SHOP, Case, chance, some_house, with_item,
                           with_part)
from tests.slowdeeds import (CLUB, CLUB_RUN, MET, MISSED, seen_house, slow_fault, slow_pairs, slow_words, some_deeds,
                             some_histories, some_shown)

FAULTY = ((0, 0, 2, ()), (1, 3, 3, ((0, 0, 1),)))
WORDS = ("shown", "unshown", "row", "duty")

# One door that looks at a row and a lot and writes both.
OWN = (((0,),), ("row", "lot"), ((0, (0, 1), (0, 1)),), ((0,),))


def wild_history(source, house, many):
    """A history that shows any numbers, also of deeds that there are not."""
    history = []
    for deed in some_deeds(source, house, many):
        shown = []
        for book in house[2][deed[0]][2]:
            numbers = [source.randrange(many + 1) for _ in range(source.randint(0, 3))]
            shown.append(tuple(numbers) if house[1][book] == "row" else tuple(sorted(set(numbers))))
        history.append(deed + (tuple(shown),))
    return tuple(history)


class Kinds(Case):

    def test_deeds(self):
        self.same([is_deeds(SHOP, thing) for thing in ((), ((0, 0, 0),), ((1, 3, 3), (0, 0, 5), (1, 3, 3)))], [True] * 3)
        self.same(is_deeds(SHOP, ((0, 10 ** 40, 10 ** 40 + 1),)), True)
        for thing in NOT_TUPLES + (((0, 0),), ((0, 0, 0, ()),), ([0, 0, 0],), ((0, 1, 0),), ((0, 0, -1),), ((2, 0, 0),),
                                   ((0, 0, 0), None), MET, [(0, 0, 0)], "000", ("000",)):
            self.same(is_deeds(SHOP, thing), False)
        for at in range(3):
            for value in NOT_NUMBERS:
                self.same(is_deeds(SHOP, ((0, 0, 0), with_item((0, 0, 0), at, value))), False)

    def test_history(self):
        for thing in ((), MET, MISSED, FAULTY, ((1, 0, 0, ((7, 7),)),), ((0, 0, 0, ()),) * 3):
            self.same(is_history(SHOP, thing), True)
        self.same(is_history(LONE, ((0, 5, 6, ()), (0, 0, 0, ()))), True)
        self.same(is_history(CLUB, CLUB_RUN), True)
        self.same(is_history(SHOP, ((1, 10 ** 40, 10 ** 41, ((BIG,),)),)), True)
        for thing in NOT_TUPLES + (((0, 0, 0),), [MET], list(MET), ((0, 0, 0, (), ()),), ([0, 0, 0, ()],),
                                   ((0, 0, 0, ((),)),), ((1, 0, 0, ()),), ((1, 0, 0, ((), ())),), ((1, 0, 0, ([],)),),
                                   ((1, 0, 0, [()]),), ((1, 0, 0, (0,)),), ((1, 0, 0, None),), ((1, 0, 0, (None,)),),
                                   ((0, 1, 0, ()),), ((2, 0, 0, ()),), ((0, 0, 0, None),), ((0, 0, 0, 0),)):
            self.same(is_history(SHOP, thing), False)
        for value in NOT_NUMBERS:
            for at in range(3):
                self.same(is_history(SHOP, with_part(MET, (0, at), value)), False)
            self.same(is_history(SHOP, with_part(MET, (1, 3, 0), (value,))), False)
            self.same(is_history(SHOP, with_part(MET, (1, 3, 0), (0, value))), False)

    def test_rows_and_lots(self):
        # In a "row" numbers stand in any sequence, also twice; in a "lot" they ascend.
        for numbers, row, lot in [((), True, True), ((0,), True, True), ((0, 1), True, True), ((1, 0), True, False),
                                  ((1, 1), True, False), ((0, 2, 1), True, False), ((0, 2, 9), True, True),
                                  ((True,), False, False), ((-1,), False, False), (None, False, False)]:
            self.same(is_history(OWN, ((0, 0, 0, (numbers, ())),)), row)
            self.same(is_history(OWN, ((0, 0, 0, ((), numbers)),)), lot)


class Faults(Case):

    def test_example(self):
        self.same(first_fault(SHOP, FAULTY), (1, 0, "writes"))
        self.same([first_fault(SHOP, history) for history in ((), MET, MISSED)], [None] * 3)
        self.same(first_fault(CLUB, CLUB_RUN), None)

    def test_each_word(self):
        writer = (0, 0, 2, ())
        for shown, want in [((2,), "none"), ((0, BIG), "none"), ((1,), "writes"), ((0, 0), "twice"), ((0,), None)]:
            self.same(first_fault(SHOP, (writer, (1, 3, 3, (shown,)))), None if want is None else (1, 0, want))
        # The deed 1 of three, of a door that looks at a row and a lot and writes both.
        deed = (0, 0, 0, ((), ()))
        for shown, want in [(((1,), ()), (1, 0, "own")), (((), (1,)), (1, 1, "own")), (((0, 1, 2), ()), (1, 0, "own")),
                            (((0, 1, 0), ()), (1, 0, "own")), (((2, 0, 2), ()), (1, 0, "twice")),
                            (((2,), (0, 3)), (1, 1, "none")), (((0, 0), (9,)), (1, 0, "twice")),
                            (((2, 0), (0, 2)), None)]:
            self.same(first_fault(OWN, (deed, deed[:3] + (shown,), deed)), want)

    def test_words_go_ahead_of_numbers(self):
        # Of one book the first word counts, whatever number it is told of.
        for shown, want in [((0, 0, 1), "writes"), ((0, 0, 1, 5), "none"), ((1, 1), "writes"), ((5, 5), "none")]:
            self.same(first_fault(SHOP, ((0, 0, 2, ()), (1, 3, 3, (shown,)))), (1, 0, want))
        self.same(first_fault(OWN, ((0, 0, 0, ((0, 0), ())),)), (0, 0, "own"))

    def test_books_are_named_by_their_numbers(self):
        house = (((0,),), ("lot", "row", "row"), ((0, (1,), (1, 2)), (0, (2,), ())), ((0, 0), (0, 0)))
        self.same(first_fault(house, ((0, 0, 0, ((), (0,))),)), (0, 2, "writes"))
        self.same(first_fault(house, ((0, 0, 0, ((0,), (0,))),)), (0, 1, "own"))

    def test_by_definition(self):
        source = chance(43)
        found = {}
        for k in range(1000):
            house = OWN if k % 5 == 0 else some_house(source)
            history = wild_history(source, house, source.randint(0, 4))
            want = slow_fault(house, history)
            self.same(is_history(house, history), True)
            self.same(first_fault(house, history), want)
            word = None if want is None else want[2]
            found[word] = found.get(word, 0) + 1
            if want is None:
                self.same(lets_history(house, history), len(history))
            else:
                self.fails(InvalidPaper, (word, want[0]), lets_history, house, history)
                self.fails(Misshown, want, forced_pairs, house, 1, history)
        self.assertGreater(min(found[word] for word in (None, "none", "writes", "own", "twice")), 10)

    def test_wrong(self):
        for thing in NOT_TUPLES + (((0, 0, 0),), list(MET), ((1, 0, 0, ()),), ((0, True, 1, ()),)):
            self.unusable("history", first_fault, SHOP, thing)


class Checker(Case):

    def refused(self, word, at, thing, house=SHOP):
        self.fails(InvalidPaper, (word, at), lets_history, house, thing)

    def test_accepted(self):
        self.same([lets_history(SHOP, thing) for thing in (MET, MISSED, ())], [2, 2, 0])
        self.same(lets_history(CLUB, CLUB_RUN), 6)
        self.same(lets_history(SHOP, ((0, 0, 0, ()),) * 40), 40)

    def test_shape_and_deeds(self):
        for thing in NOT_TUPLES + (list(MET),):
            self.refused("shape", -1, thing)
        for at in range(2):
            for deed in NOT_TUPLES + ((), (0, 0, 0), (0, 0, 0, (), ()), [0, 0, 0, ()]):
                self.refused("deed", at, with_item(MET, at, deed))
            for value in NOT_NUMBERS + (2, BIG):
                self.refused("door", at, with_part(MET, (at, 0), value))
            for value in NOT_NUMBERS:
                self.refused("asked", at, with_part(MET, (at, 1), value))
                self.refused("answered", at, with_part(MET, (at, 2), value))
        self.refused("answered", 1, with_part(MET, (1, 2), 2))
        self.refused("answered", 0, with_part(MET, (0, 1), 3))

    def test_shown(self):
        for shown in NOT_TUPLES + ((), ((), ()), [()], ([],), (None,), (0,), ("0",), ((True,),), ((-1,),), ((None,),),
                                   (((0,),),)):
            self.refused("shown", 1, with_part(MET, (1, 3), shown))
        for shown in (((), (1, 0)), ((), (0, 0)), ((), (0, True)), ((0, True), ())):
            self.refused("shown", 0, ((0, 0, 0, shown),), OWN)
        self.refused("shown", 0, with_part(MET, (0, 3), ((),)))

    def test_first_of_several(self):
        # All of one deed before the next; faults behind all deeds.
        self.refused("shown", 0, ((0, 0, 0, None), None))
        self.refused("deed", 1, ((1, 0, 0, ((9,),)), None))
        self.refused("none", 0, ((1, 0, 0, ((9,),)), (0, 0, 0, ())))
        self.refused("door", 0, ((None, None, None, None),))
        self.refused("asked", 0, ((0, None, None, None),))
        self.refused("answered", 0, ((0, 1, None, None),))
        self.refused("writes", 1, FAULTY)
        self.refused("own", 0, ((0, 0, 0, ((0, 0), ())),), OWN)
        self.refused("twice", 1, ((0, 0, 0, ((), ())), (0, 0, 0, ((0, 0), (9,)))), OWN)

    def test_consequence(self):
        # It returns exactly if first_fault returns None.
        source = chance(44)
        for _ in range(100):
            house = seen_house(source)
            history = wild_history(source, house, 3)
            if first_fault(house, history) is None:
                self.same(lets_history(house, history), 3)
            else:
                with self.assertRaises(InvalidPaper):
                    lets_history(house, history)


class Forced(Case):

    def test_examples(self):
        self.same(forced_words(SHOP, 2, MET, 0, 1), ("shown", "duty"))
        self.same(forced_pairs(SHOP, 2, MISSED), ((0, 1), (1, 0)))
        self.same(forced_words(SHOP, 2, MISSED, 1, 0), ("unshown",))

    def test_edges(self):
        self.same((forced_pairs(SHOP, 1, ()), forced_pairs(LONE, 1, ((0, 3, 4, ()),))), ((), ()))
        # Asked at the very moment that the duty names, and one beat later.
        for asked, words in ((10 + 3 * 2, ()), (10 + 3 * 2 + 1, ("duty",))):
            house = (((0,),), (), ((0, (), ()), (0, (), ())), ((0, 2), (None, 0)))
            history = ((0, 0, 10, ()), (1, asked, asked, ()))
            self.same(forced_words(house, 3, history, 0, 1), words)
            self.same(forced_words(house, 3, tuple(reversed(history)), 0, 1), ())
        # Deeds of one door owe each other 0; those of a door with an endless duty nothing.
        for asked, words in ((4, ()), (5, ("duty",))):
            self.same(forced_words(LONE, 1, ((0, 0, 4, ()), (0, asked, asked, ())), 0, 1), words)
        self.same(forced_words(house, 3, ((1, 0, 0, ()), (0, 10 ** 40, 10 ** 40, ())), 0, 1), ())

    def test_own_book(self):
        # A door that looks at books that it writes itself: of two of its deeds that do not show each other
        # each is forced ahead of the other one.
        apart = ((0, 0, 9, ((), ())), (0, 0, 9, ((), ())))
        self.same(forced_pairs(OWN, 1, apart), ((0, 1), (1, 0)))
        self.same(forced_words(OWN, 1, apart, 0, 1), ("unshown",))
        ahead = ((0, 0, 9, ((), ())), (0, 0, 9, ((0,), (0,))))
        self.same((forced_words(OWN, 1, ahead, 0, 1), forced_words(OWN, 1, ahead, 1, 0)), (("shown", "unshown"), ()))
        # Shown in the row, not in the lot.
        half = ((0, 0, 9, ((), ())), (0, 0, 9, ((0,), ())))
        self.same((forced_words(OWN, 1, half, 0, 1), forced_words(OWN, 1, half, 1, 0)),
                  (("shown", "unshown"), ("unshown",)))

    def test_rows(self):
        # Side by side in a "row", not with a deed between; not in a "lot", which shows the same in (0, 1, 2).
        history = tuple((0, 0, 0, ()) for _ in range(3)) + ((1, 0, 0, ((2, 0, 1), (0, 1, 2))),)
        row = [pair for pair in itertools.permutations(range(4), 2) if "row" in forced_words(CLUB, 9, history, *pair)]
        self.same(row, [(0, 1), (2, 0)])
        self.same(forced_words(CLUB, 9, history, 0, 3), ("shown",))

    def test_all_words_at_once(self):
        # Door 1 looks at two books that door 0 writes, shows it in the one and not in the other.
        history = ((0, 0, 0, ()), (1, 5, 5, ((0,), ())), (0, 0, 0, ()))
        self.same(forced_words(CLUB, 1, history, 0, 1), ("shown", "duty"))
        self.same(forced_words(CLUB, 1, history, 1, 0), ("unshown",))
        self.same(forced_words(CLUB, 1, history, 1, 2), ("unshown",))
        self.same(forced_words(CLUB, 1, history, 0, 2), ())
        loop = ((0, 0, 0, ((1,), ())), (0, 9, 9, ((0, 2), (0,))), (0, 1, 1, ((0, 1), ())))
        self.same(forced_words(OWN, 1, loop, 0, 1), ("shown", "unshown", "row", "duty"))

    def test_by_definition(self):
        found = {word: 0 for word in WORDS}
        for house, grain, history in some_histories(300, 45):
            self.same(forced_pairs(house, grain, history), slow_pairs(house, grain, history))
            for one, other in itertools.permutations(range(len(history)), 2):
                words = forced_words(house, grain, history, one, other)
                self.same(words, slow_words(house, grain, history, one, other))
                for word in words:
                    found[word] += 1
        self.assertGreater(min(found.values()), 20)

    def test_forty_deeds(self):
        source = chance(46)
        deeds = some_deeds(source, CLUB, 40)
        history = tuple(deed + (some_shown(source, CLUB, deeds, at),) for at, deed in enumerate(deeds))
        self.same(forced_pairs(CLUB, 2, history), slow_pairs(CLUB, 2, history))

    def test_large_numbers(self):
        house = (SHOP[0], SHOP[1], SHOP[2], ((0, BIG), (BIG, 0)))
        last = 10 ** 40 + 10 ** 6 * BIG
        history = ((0, 0, 10 ** 40, ()), (1, last, last, ((0,),)), (1, last + 1, last + 1, ((0,),)))
        self.same(forced_words(house, 10 ** 6, history, 0, 1), ("shown",))
        self.same(forced_words(house, 10 ** 6, history, 0, 2), ("shown", "duty"))

    def test_wrong(self):
        for value in NOT_INTEGERS + (0, -1):
            self.unusable("grain", forced_words, SHOP, value, None, None, None)
            self.unusable("grain", forced_pairs, SHOP, value, None)
        for value in NOT_TUPLES + (((0, 0, 0),), list(MET), ((1, 0, 0, ()),), ((0, True, 1, ()),)):
            self.unusable("history", forced_words, SHOP, 1, value, None, None)
            self.unusable("history", forced_pairs, SHOP, 1, value)
        for value in NOT_NUMBERS + (2, BIG):
            # Also where the history has a fault: that is told behind the parameters.
            self.unusable("one", forced_words, SHOP, 1, FAULTY, value, None)
            self.unusable("other", forced_words, SHOP, 1, FAULTY, 0, value)
        for one in (0, 1):
            self.unusable("other", forced_words, SHOP, 1, MET, one, one)
        self.fails(Misshown, (1, 0, "writes"), forced_words, SHOP, 1, FAULTY, 0, 1)
        self.fails(Misshown, (1, 0, "writes"), forced_pairs, SHOP, 1, FAULTY)
