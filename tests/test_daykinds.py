"""Delays, dayhouses and dayrows: [63], [64], and of [9] what they are."""

import itertools

from bestunmoved.daychecker import lets_dayhouse
from bestunmoved.daykinds import is_dayhouse, is_dayrows, is_delays
from bestunmoved.errors import InvalidPaper
from bestunmoved.housechecker import lets_house
from bestunmoved.kinds import is_house
from tests.helpers import (BIG, NOT_INTEGERS, NOT_NUMBERS, NOT_TUPLES, SHOP, Case, chance, some_house, some_rows,
                           with_item, with_part)
from tests.slowdays import FERRY, LEAST, NONE, slow_delays, some_delays

# Three places, a day of two hours: from 0 to 2 by 1.
RELAY = (2, (((0, 0), (1, 2), (3, 4)), (None, (0, 0), (3, 2)), (None, None, (0, 0))), (), ((0, (), ()),), ((0,),))


def slow_handing(day, ways):
    """The first place from which handing on leads, at some hour, sooner or to a place without a way."""
    many = range(len(ways))
    for p in many:
        for q, r, h in itertools.product(many, many, range(day)):
            if ways[p][q] is None or ways[q][r] is None:
                continue
            there = h + ways[p][q][h]
            last = there + ways[q][r][there % day]
            if ways[p][r] is None or h + ways[p][r][h] > last:
                return p
    return None


def same_day(house, day):
    """The house as a dayhouse, the same at all hours."""
    ways = tuple(tuple(None if way is None else (way,) * day for way in row) for row in house[0])
    return (day, ways) + house[1:]


class Delays(Case):

    def test_is_delays(self):
        for day, thing, want in [
                (1, (0,), True), (1, (BIG,), True), (4, (3, 2, 1, 4), True), (4, (3, 2, 1, 5), False),
                (4, (3, 2, 0, 3), False), (4, (4, 2, 1, 4), False), (4, (0, 5, 4, 3), False), (4, (0, 3, 2, 1), True),
                (2, (9, 8), True), (2, (9, 7), False), (2, (8, 9), True), (2, (7, 9), False), (3, (BIG, BIG, BIG), True),
                (3, (BIG, BIG - 1, BIG - 2), True), (3, (2, 1, 0), True), (3, (0, 0, 2), False), (3, (0, BIG, 0), False), (3, (2, 1, 3), True), (3, (100, 100, 100), True),
                (4, (3, 2, 1), False), (4, (3, 2, 1, 4, 3), False), (4, [3, 2, 1, 4], False), (1, (), False), (2, (0,), False)]:
            self.same(is_delays(day, thing), want, day, thing)
        for thing in NOT_TUPLES:
            self.same(is_delays(2, thing), False)
        for at, value in itertools.product(range(3), NOT_NUMBERS):
            self.same(is_delays(3, with_item((1, 1, 1), at, value)), False)

    def test_by_definition(self):
        found = [0, 0]
        for day in (1, 2, 3, 4):
            for thing in itertools.product(range(4), repeat=day):
                want = slow_delays(day, thing)
                self.same(is_delays(day, thing), want)
                found[want] += 1
        self.assertGreater(min(found), 50)


class Dayhouses(Case):

    def refused(self, word, at, thing):
        self.fails(InvalidPaper, (word, at), lets_dayhouse, thing)
        self.same(is_dayhouse(thing), False)

    def test_accepted(self):
        for thing, doors in ((FERRY, 2), (RELAY, 1), (same_day(SHOP, 1), 2), (same_day(SHOP, 24), 2),
                             ((1, (((0,),),), (), ((0, (), ()),), ((0,),)), 1)):
            self.same((lets_dayhouse(thing), is_dayhouse(thing)), (doors, True))
        # Delays longer than a day, of 10 ** 30 and beyond.
        long = with_part(FERRY, (1, 0, 1), (BIG + 3, BIG + 2, BIG + 1, BIG + 4))
        self.same(lets_dayhouse(long), 2)

    def test_shape_and_day(self):
        for thing in NOT_TUPLES + ((), FERRY[:4], FERRY + (0,), list(FERRY), SHOP):
            self.refused("shape", -1, thing)
        for day in NOT_INTEGERS + (0, -1):
            self.refused("day", -1, with_item(FERRY, 0, day))
            self.refused("day", -1, (day, None, None, None, None))

    def test_rows(self):
        for ways in NOT_TUPLES + ((), list(FERRY[1])):
            self.refused("ways", -1 if not isinstance(ways, tuple) or not ways else 0, with_item(FERRY, 1, ways))
        for at in range(2):
            for row in NOT_TUPLES + ((), FERRY[1][at][:1], FERRY[1][at] + (None,), list(FERRY[1][at])):
                self.refused("ways", at, with_part(FERRY, (1, at), row))
            for delays in NOT_TUPLES + ((), (0, 0, 0), (0,) * 5, [0] * 4, (3, 2, 1, 5), (0, 0, 0, True), (0, 0, None, 0),
                                        (0, -1, -1, 0), ((0,),) * 4):
                if delays is not None:
                    self.refused("ways", at, with_part(FERRY, (1, at, 1 - at), delays))
                self.refused("ways", at, with_part(FERRY, (1, at, at), delays))
            for own in ((0, 0, 0, 1), (1, 1, 1, 1), (1, 0, 0, 0), None):
                self.refused("ways", at, with_part(FERRY, (1, at, at), own))
        # A day that the delays do not have, however long.
        for day in (1, 3, 5, BIG):
            self.refused("ways", 0, with_item(FERRY, 0, day))
        self.refused("ways", 0, with_part(with_part(FERRY, (1, 0), None), (1, 1), None))

    def test_handing(self):
        # At one hour alone handing on helps.
        self.refused("handing", 0, with_part(RELAY, (1, 0, 2), (4, 4)))
        self.refused("handing", 0, with_part(RELAY, (1, 0, 2), (4, 5)))
        self.refused("handing", 0, with_part(RELAY, (1, 0, 2), (5, 5)))
        self.same(lets_dayhouse(with_part(RELAY, (1, 0, 2), (3, 3))), 1)
        self.same(lets_dayhouse(with_part(RELAY, (1, 0, 2), (0, 0))), 1)
        self.refused("handing", 0, with_part(RELAY, (1, 0, 2), None))
        self.refused("handing", 1, with_part(RELAY, (1, 2, 0), (9, 9)))
        # Given on at the hour at which it has come, also on later days.
        ways = (((0, 0, 0), (5, 4, 4), None), (None, (0, 0, 0), (2, 1, 0)), (None, None, (0, 0, 0)))
        self.refused("handing", 0, (3, ways) + RELAY[2:])
        ways = (((0, 0, 0), (5, 4, 4), (5, 5, 6)), (None, (0, 0, 0), (2, 1, 2)), (None, None, (0, 0, 0)))
        self.same(slow_handing(3, ways), None)
        self.same(lets_dayhouse((3, ways) + RELAY[2:]), 1)
        for hour in range(3):
            longer = with_part(ways, (0, 2, hour), ways[0][2][hour] + 1)
            if slow_delays(3, longer[0][2]):
                self.same(is_dayhouse((3, longer) + RELAY[2:]), slow_handing(3, longer) is None)

    def test_handing_by_definition(self):
        source = chance(64)
        found = [0, 0]
        for _ in range(1500):
            day = source.randint(1, 3)
            many = source.randint(2, 3)
            ways = tuple(tuple((0,) * day if p == q else None if source.random() < 0.3 else some_delays(source, day)
                               for q in range(many)) for p in range(many))
            place = slow_handing(day, ways)
            thing = (day, ways, (), ((0, (), ()),), ((0,),))
            if place is None:
                self.same(lets_dayhouse(thing), 1)
            else:
                self.refused("handing", place, thing)
            found[place is None] += 1
        self.assertGreater(min(found), 100)

    def test_the_rest_as_houses(self):
        # Behind the ways all words and places are those of lets_house.
        source = chance(65)
        for _ in range(150):
            house = some_house(source)
            house = (house[0], house[1], house[2], some_rows(source, len(house[2]), -1, 5, 0.2))
            at = source.choice((None, 1, 2, 3))
            if at is not None:
                house = with_item(house, at, source.choice(NOT_TUPLES))
            elif house[1]:
                looks = tuple(range(len(house[1]) + source.randint(0, 1)))
                house = with_part(house, (2, 0), house[2][0][:2] + (looks,))
            thing = same_day(house, 3)
            try:
                want = lets_house(house)
            except InvalidPaper as raised:
                self.refused(raised.word, raised.at, thing)
            else:
                self.same((lets_dayhouse(thing), is_dayhouse(thing)), (want, True))

    def test_each_word_behind_the_ways(self):
        for path, value, word, at in [
                ((2,), [], "books", -1), ((2, 0), "rows", "book", 0), ((3,), (), "doors", -1), ((3, 1), (1, ()), "door", 1),
                ((3, 1, 0), 2, "place", 1), ((3, 0, 1), (1,), "writes", 0), ((3, 1, 2), (0, 0), "looks", 1),
                ((4,), ((0, 0),), "duties", -1), ((4, 1), (0, 1), "duties", 1), ((4, 0), (0, True), "duties", 0),
                ((1, 0, 1), None, "unheard", 1)]:
            self.refused(word, at, with_part(FERRY, path, value))

    def test_same_day_is_a_dayhouse_exactly_if_it_is_a_house(self):
        source = chance(66)
        for _ in range(100):
            house = some_house(source)
            ways = some_rows(source, len(house[0]), 0, 4, 0.2)
            self.same(is_dayhouse(same_day((ways,) + house[1:], 2)), is_house((ways,) + house[1:]))


class Dayrows(Case):

    def test_is_dayrows(self):
        for thing in (NONE, LEAST, ((9, 0, BIG, 3), (0, 7, 0, 0))):
            self.same(is_dayrows(FERRY, thing), True)
        for thing in NOT_TUPLES + ((), NONE[:1], NONE + NONE[:1], list(NONE), ((0, 0, 0, 0), (0, 0, 0)),
                                   ((0, 0, 0, 0), [0, 0, 0, 0]), ((0, 0, 0, 0), (0,) * 5), ((0, 0, 0, 0), None), (0, 0)):
            self.same(is_dayrows(FERRY, thing), False)
        for path in itertools.product(range(2), range(4)):
            for value in NOT_NUMBERS:
                self.same(is_dayrows(FERRY, with_part(NONE, path, value)), False)
        self.same((is_dayrows(RELAY, ((0, 5),)), is_dayrows(RELAY, ((0,),))), (True, False))
