"""Kinds, duties and the checker of houses: [2] to [4], [13] to [15]."""

import itertools

from bestunmoved.dutykinds import counter_duties, free_duties, is_duties, lag_duties, prompt_duties
from bestunmoved.errors import InvalidPaper
from bestunmoved.housechecker import lets_house
from bestunmoved.kinds import is_house, is_integer, is_lot, is_number, is_order, is_ways
from tests.helpers import (BIG, LONE, NOT_INTEGERS, NOT_NUMBERS, NOT_SPANS, NOT_TUPLES, SHOP, Case, big_house, chance,
                           some_house, with_part)

SMALL = (None, True, False, -1, 0, 1, 2, 3, "0", (), (0,))


class Integers(Case):

    def test_integers(self):
        for value in (0, 1, -1, BIG, -BIG, 10 ** 59):
            self.same(is_integer(value), True)
        for value in NOT_INTEGERS:
            self.same(is_integer(value), False, value)

    def test_numbers(self):
        for value in (0, 1, BIG):
            self.same(is_number(value), True)
        for value in NOT_NUMBERS:
            self.same(is_number(value), False, value)


class Lots(Case):

    def test_every_short_tuple(self):
        for size in range(4):
            for many in range(4):
                for thing in itertools.product(SMALL, repeat=many):
                    fine = all(value.__class__ is int and 0 <= value < size for value in thing)
                    lot = fine and all(a < b for a, b in zip(thing, thing[1:]))
                    self.same(is_lot(size, thing), lot, size, thing)
                    order = fine and many == size and len(set(thing)) == many
                    self.same(is_order(size, thing), order, size, thing)

    def test_other_values(self):
        for thing in NOT_TUPLES:
            for size in (0, 1, 2):
                self.same(is_lot(size, thing), False)
                self.same(is_order(size, thing), False)

    def test_great_sizes(self):
        self.same(is_lot(BIG, (0, BIG - 1)), True)
        self.same(is_lot(BIG, (0, BIG)), False)
        self.same(is_order(BIG, (0, 1)), False)
        self.same(is_order(2, ((0,), 1)), False)
        self.same(is_order(2, ([], 1)), False)


class Ways(Case):

    def test_ways(self):
        for ways in (((0,),), ((0, None), (None, 0)), ((0, 0), (0, 0)), ((0, BIG), (7, 0)),
                     ((0, 1, 3), (None, 0, 2), (None, None, 0)), ((0, 1, 2), (None, 0, 2), (None, None, 0))):
            self.same(is_ways(ways), True, ways)

    def test_handing_on_helps(self):
        self.same(is_ways(((0, 1, 4), (None, 0, 2), (None, None, 0))), False)
        self.same(is_ways(((0, 1, None), (None, 0, 2), (None, None, 0))), False)
        self.same(is_ways(((0, None, None), (4, 0, 1), (2, None, 0))), False)
        self.same(is_ways(((0, None, None), (3, 0, 1), (2, None, 0))), True)

    def test_no_ways(self):
        for thing in NOT_TUPLES + ((), (0,), ((),), ((1,),), ((None,),), ((False,),), ([0],), [(0,)], ((0, 0),),
                                   ((0, 1), (1,)), ((0, 1), (1, 0, 0)), ((0, 1), (True, 0)), ((0, -1), (1, 0)),
                                   ((0, "1"), (1, 0)), ((0, 1), [1, 0]), ((0, 1), (1, 2))):
            self.same(is_ways(thing), False, thing)

    def test_by_definition(self):
        entries = (None, 0, 1, 2)
        for a, b, c, d, e, f in itertools.product(entries, repeat=6):
            ways = ((0, a, b), (c, 0, d), (e, f, 0))
            helps = False
            for p, q, r in itertools.product(range(3), repeat=3):
                if ways[p][q] is not None and ways[q][r] is not None:
                    helps = helps or ways[p][r] is None or ways[p][r] > ways[p][q] + ways[q][r]
            self.same(is_ways(ways), not helps, ways)


class Duties(Case):

    def test_is_duties(self):
        self.same(is_duties(1, ((0,),)), True)
        self.same(is_duties(2, ((0, None), (BIG, 0))), True)
        self.same(is_duties(3, ((0, 9, 1), (None, 0, None), (None, 1, 0))), True)
        for thing in NOT_TUPLES + ((), ((0,),), ((0, 0),), ((0, 0), (0,)), ((0, 0), (0, 0), (0, 0)), ((0, 0), [0, 0]),
                                   ((1, 0), (0, 0)), ((0, 0), (0, None)), ((0, 0), (0, False)), ((0, -1), (0, 0)),
                                   ((0, True), (0, 0)), ((0, "0"), (0, 0)), ((0, 0, 0), (0, 0, 0)), [(0, 0), (0, 0)]):
            self.same(is_duties(2, thing), False, thing)

    def test_free_and_prompt(self):
        self.same(free_duties(1), ((0,),))
        self.same(free_duties(3), ((0, None, None), (None, 0, None), (None, None, 0)))
        self.same(prompt_duties(1), ((0,),))
        self.same(prompt_duties(2), ((0, 0), (0, 0)))
        for size in range(1, 11):
            self.assertTrue(is_duties(size, free_duties(size)))
            self.assertTrue(is_duties(size, prompt_duties(size)))

    def test_counters(self):
        self.same(counter_duties((5, 2)), ((0, None), (None, 0)))
        self.same(counter_duties((7,)), ((0,),))
        self.same(counter_duties((BIG, 0, BIG)), ((0, None, 0), (None, 0, None), (0, None, 0)))

    def test_lags(self):
        self.same(lag_duties((1, 2), (0, 4)), ((0, 5), (2, 0)))
        self.same(lag_duties((9,), (8,)), ((0,),))
        self.same(lag_duties((0, BIG, 1), (1, 2, BIG)), ((0, 2, BIG), (BIG + 1, 0, BIG * 2), (2, 3, 0)))
        for ends in NOT_TUPLES + ((), (0,), (0, 0, 0), (0, -1), (0, None), (True, 0), (0, "1")):
            self.unusable("ends", lag_duties, (1, 2), ends)


# Every fault of a house is told of this one, two places and three doors: a path, another value there, the error.
FAIR = (((0, 2), (3, 0)), ("row", "lot"), ((0, (0,), (1,)), (1, (1,), (0, 1)), (0, (), ())),
        ((0, 1, None), (0, 0, 4), (5, None, 0)))

FAULTS = [
    ((0,), (), ("ways", -1)),
    ((0, 0), (0,), ("ways", 0)),
    ((0, 0), (0, 2, 2), ("ways", 0)),
    ((0, 0), [0, 2], ("ways", 0)),
    ((0, 0), None, ("ways", 0)),
    ((0, 1), (0,), ("ways", 1)),
    ((0, 0, 0), 1, ("ways", 0)),
    ((0, 1, 1), None, ("ways", 1)),
    ((0, 1, 1), False, ("ways", 1)),
    ((0,), ((0, 1, None), (None, 0, 1), (None, None, 0)), ("handing", 0)),
    ((0,), ((0, 1, 3), (None, 0, 1), (None, None, 0)), ("handing", 0)),
    ((0,), ((0, None, None), (4, 0, 1), (2, None, 0)), ("handing", 1)),
    ((0,), ((0, None, 5), (None, 0, None), (2, 1, 0)), ("handing", 0)),
    ((0,), ((0, None, None), (None, 0, 9), (2, None, 0)), ("handing", 1)),
    ((1, 0), "rows", ("book", 0)),
    ((1, 1), None, ("book", 1)),
    ((1, 1), ("row",), ("book", 1)),
    ((2,), (), ("doors", -1)),
    ((2, 0), (0, (0,)), ("door", 0)),
    ((2, 1), (0, (0,), (), ()), ("door", 1)),
    ((2, 1), [0, (0,), ()], ("door", 1)),
    ((2, 2), None, ("door", 2)),
    ((2, 0, 0), 2, ("place", 0)),
    ((2, 1, 0), True, ("place", 1)),
    ((2, 1, 0), -1, ("place", 1)),
    ((2, 2, 0), None, ("place", 2)),
    ((2, 0, 1), (2,), ("writes", 0)),
    ((2, 1, 1), (1, 0), ("writes", 1)),
    ((2, 1, 1), [0], ("writes", 1)),
    ((2, 2, 1), (True,), ("writes", 2)),
    ((2, 0, 2), (0, 0), ("looks", 0)),
    ((2, 1, 2), None, ("looks", 1)),
    ((2, 2, 2), (-1,), ("looks", 2)),
    ((3,), ((0, 1, None), (0, 0, 4)), ("duties", -1)),
    ((3,), ((0,),) * 4, ("duties", -1)),
    ((3, 0), (0, 1), ("duties", 0)),
    ((3, 1), [0, 0, 4], ("duties", 1)),
    ((3, 1, 1), 1, ("duties", 1)),
    ((3, 2, 2), None, ("duties", 2)),
    ((0,), ((0, None), (3, 0)), ("unheard", 1)),
    ((0,), ((0, 2), (None, 0)), ("unheard", 0)),
    ((0,), ((0, None), (None, 0)), ("unheard", 0)),
]

# The sequence in which the words are asked; those of one door are asked ahead of the next door's.
WORDS = ("shape", "ways", "handing", "books", "book", "doors", "door", "place", "writes", "looks", "duties", "unheard")


def rank(fault):
    """When a fault is asked."""
    word, at = fault
    if word in ("door", "place", "writes", "looks"):
        return (WORDS.index("door"), at, WORDS.index(word))
    return (WORDS.index(word), at, 0)


class Houses(Case):

    def refused(self, thing, fault):
        self.fails(InvalidPaper, fault, lets_house, thing)
        self.same(is_house(thing), False, thing)

    def test_accepted(self):
        for house in (SHOP, LONE, FAIR, big_house()):
            self.same(lets_house(house), len(house[2]))
            self.same(is_house(house), True)
        # Unlike doors of one place hear each other; a door that sees itself needs no way.
        self.same(lets_house((((0, None), (None, 0)), ("lot",), ((1, (0,), (0,)), (1, (), (0,)), (0, (), ())),
                              ((0, None, 0), (0, 0, 0), (0, 0, 0)))), 3)

    def test_shape(self):
        for thing in NOT_TUPLES + ((), FAIR[:3], FAIR + ((),), list(FAIR)):
            self.refused(thing, ("shape", -1))

    def test_parts_that_are_no_tuples(self):
        for thing in NOT_TUPLES:
            for at, word in enumerate(("ways", "books", "doors", "duties")):
                self.refused(with_part(FAIR, (at,), thing), (word, -1))

    def test_entries(self):
        for value in NOT_SPANS:
            self.refused(with_part(FAIR, (0, 1, 0), value), ("ways", 1))
            self.refused(with_part(FAIR, (3, 2, 0), value), ("duties", 2))

    def test_each_fault(self):
        for path, value, fault in FAULTS:
            self.refused(with_part(FAIR, path, value), fault)

    def test_first_of_two_faults(self):
        for one, other in itertools.combinations(FAULTS, 2):
            first, second = one[0], other[0]
            if first[:len(second)] == second or second[:len(first)] == first:
                continue
            if "unheard" in (one[2][0], other[2][0]) or (1,) in (first, second):
                continue
            thing = with_part(with_part(FAIR, *one[:2]), *other[:2])
            # Other ways have other places; the doors of this house stand at the first two.
            self.refused(thing, min(one[2], other[2], key=rank))

    def test_unheard_comes_last(self):
        deaf = with_part(FAIR, (0,), ((0, None), (None, 0)))
        for path, value, fault in FAULTS:
            if path[0] > 0 and len(path) > 1:
                self.refused(with_part(deaf, path, value), fault)

    def test_numbers_have_no_limit_here(self):
        ways = tuple(tuple(0 if p == q else 10 ** 59 for q in range(12)) for p in range(12))
        doors = ((11, (), (29,)),) * 12
        self.same(lets_house((ways, ("lot",) * 30, doors, prompt_duties(12))), 12)

    def test_any_part_replaced(self):
        source = chance(15)
        odd = NOT_INTEGERS + (-1, 0, 1, 2, 9, "row", "lot", (0, 1))
        for _ in range(300):
            house = some_house(source)
            path = []
            part = house
            while isinstance(part, tuple) and part and (not path or source.random() < 0.8):
                path.append(source.randrange(len(part)))
                part = part[path[-1]]
            for value in odd:
                thing = with_part(house, path, value)
                try:
                    accepted = lets_house(thing) == len(thing[2])
                except InvalidPaper:
                    accepted = False
                self.same(is_house(thing), accepted, thing)
                if accepted:
                    self.assertEqual(repr(part)[0] == "(", repr(value)[0] == "(")
