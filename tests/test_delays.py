"""Delays and dayhouses put together: [65], [66], and closing in [72]."""

import itertools

from bestunmoved.dayhouses import dayhouse_of, longest_house, same_day, same_rows
from bestunmoved.daykinds import is_dayhouse, is_dayrows, is_delays
from bestunmoved.daychecker import lets_dayhouse
from bestunmoved.delays import closed_delays, coming, same_delays, ship_delays
from bestunmoved.errors import NotUsable, Unheard
from bestunmoved.houses import house_of
from bestunmoved.kinds import is_house
from bestunmoved.ways import closed_ways
from tests.helpers import (BIG, NOT_INTEGERS, NOT_NUMBERS, NOT_TUPLES, SHOP, Case, chance, some_house, some_rows,
                           with_item, with_part)
from tests.slowdays import CIRCLE, FERRY, slow_closed, slow_ships, some_dayhouse, some_delays


class Ships(Case):

    def test_by_definition(self):
        source = chance(650)
        for k in range(400):
            day = source.randint(1, 24 if k % 5 == 0 else 5)
            ships = tuple((source.randrange(day), source.randint(0, 2 * day + 1)) for _ in range(source.randint(1, 5)))
            got = ship_delays(day, ships)
            self.same(got, tuple(slow_ships(day, ships, hour) for hour in range(day)))
            self.assertTrue(is_delays(day, got))
            # In any sequence, also the same again.
            self.same(ship_delays(day, ships[::-1] + ships), got)
            more = ships + ((source.randrange(day), source.randint(0, day)),)
            self.assertTrue(all(one <= other for one, other in zip(ship_delays(day, more), got)))

    def test_edges(self):
        self.same(ship_delays(1, ((0, 0),)), (0,))
        self.same(ship_delays(1, ((0, 7),)), (7,))
        self.same(ship_delays(24, ((23, 0),)), tuple(range(23, -1, -1)))
        self.same(ship_delays(3, ((0, 100),)), (100, 102, 101))
        # A ship a day later comes sooner.
        self.same(ship_delays(4, ((0, 100), (3, 2))), (5, 4, 3, 2))
        self.same(ship_delays(2, ((0, BIG), (1, BIG + 5))), (BIG, BIG + 1))
        self.same(ship_delays(24, ((5, 1),) * 40), ship_delays(24, ((5, 1),)))

    def test_wrong(self):
        for value in NOT_NUMBERS:
            self.unusable("ships", ship_delays, 4, ((1, 1), (value, 1)))
            self.unusable("ships", ship_delays, 4, ((1, value),))
            if value != (0, 0):
                self.unusable("ships", ship_delays, 4, (value,))
        for leave in (4, 5, BIG):
            self.unusable("ships", ship_delays, 4, ((leave, 0), (0, 0)))
        self.unusable("ships", ship_delays, 4, ())


class Alike(Case):

    def test_same_delays(self):
        self.same([same_delays(1, 0), same_delays(3, BIG), same_delays(24, 2)], [(0,), (BIG,) * 3, (2,) * 24])

    def test_coming(self):
        for delays in ((3, 2, 1, 4), (0,), (9,), (5, 4)):
            for hour in range(-13, 14):
                self.same(coming(delays, hour), hour + delays[hour % len(delays)])
        self.same(coming((1, 2), 10 ** 40), 10 ** 40 + 1)
        self.same(coming((1, 2), -10 ** 40 + 1), -10 ** 40 + 3)
        for value in NOT_INTEGERS:
            self.unusable("hour", coming, (3, 2, 1, 4), value)

    def test_same_day_and_rows(self):
        self.same(same_day(SHOP, 2), (2, (((0, 0), (2, 2)), ((2, 2), (0, 0)))) + SHOP[1:])
        self.same(same_rows(2, ()), ())
        self.same(same_rows(3, (4, 0)), ((4, 4, 4), (0, 0, 0)))
        source = chance(651)
        for _ in range(80):
            house = some_house(source)
            dayhouse = same_day(house, source.randint(1, 24))
            self.assertTrue(is_dayhouse(dayhouse))
            self.same(longest_house(dayhouse), house)
            self.assertTrue(is_dayrows(dayhouse, same_rows(dayhouse[0], (7,) * len(house[2]))))

    def test_longest(self):
        self.same(longest_house(FERRY), (((0, 4), (2, 0)),) + FERRY[2:])
        source = chance(652)
        for _ in range(150):
            dayhouse = some_dayhouse(source, days=4)
            house = longest_house(dayhouse)
            self.assertTrue(is_house(house))
            self.same(house[1:], dayhouse[2:])
            for row, delays in zip(house[0], dayhouse[1]):
                self.same(row, tuple(None if one is None else max(one) for one in delays))


class Closed(Case):

    def test_by_definition(self):
        source = chance(653)
        gaps = sooner = 0
        for _ in range(300):
            day, many = source.randint(1, 4), source.randint(1, 4)
            ways = tuple(tuple((0,) * day if p == q else None if source.random() < 0.4 else some_delays(source, day, 7)
                               for q in range(many)) for p in range(many))
            got = closed_delays(day, ways)
            for p, q in itertools.product(range(many), repeat=2):
                want = [slow_closed(day, ways, p, q, hour) for hour in range(day)]
                self.same(got[p][q], None if None in want else tuple(want))
                gaps += ways[p][q] is None and got[p][q] is not None
                # At one hour alone handing on helps.
                if ways[p][q] is not None:
                    sooner += sum(one < other for one, other in zip(got[p][q], ways[p][q])) == 1
            self.same(closed_delays(day, got), got)
        self.assertGreater(min(gaps, sooner), 20)

    def test_over_the_end_of_the_day(self):
        # Given at 2 a letter comes to 1 at 4, of the next day, and with the ship of that hour to 2.
        ways = (((0,) * 3, (1, 1, 2), (9, 9, 9)), (None, (0,) * 3, (2, 1, 3)), (None, None, (0,) * 3))
        self.same(closed_delays(3, ways)[0][2], (2, 4, 3))
        self.same(closed_delays(1, (((0,), (BIG,)), (None, (0,)))), (((0,), (BIG,)), (None, (0,))))
        self.same(closed_delays(24, (((0,) * 24,),)), (((0,) * 24,),))

    def test_the_same_at_all_hours(self):
        source = chance(654)
        for _ in range(60):
            ways = some_rows(source, source.randint(1, 4), 0, 9, 0.3)
            day = source.randint(1, 3)
            rows = tuple(tuple(None if way is None else (way,) * day for way in row) for row in ways)
            want = tuple(tuple(None if way is None else (way,) * day for way in row) for row in closed_ways(ways))
            self.same(closed_delays(day, rows), want)


class Made(Case):

    def test_made(self):
        self.same(dayhouse_of(*FERRY), FERRY)
        source = chance(655)
        for _ in range(200):
            dayhouse = some_dayhouse(source, days=5)
            self.same(lets_dayhouse(dayhouse), len(dayhouse[3]))
            self.same(dayhouse_of(*dayhouse), dayhouse)
        self.same(dayhouse_of(*CIRCLE), CIRCLE)

    def test_as_house_of(self):
        # At one hour a day all is as in house_of, errors too.
        source = chance(656)
        unheard = 0
        for _ in range(200):
            many, stood = source.randint(1, 3), source.randint(1, 3)
            ways = some_rows(source, stood, 0, 5, 0.4)
            books = tuple(source.choice(("row", "lot", "row", "lot", "rows")) for _ in range(2))
            doors = tuple((source.randrange(stood), tuple(source.randrange(2) for _ in range(2)),
                           tuple(source.randrange(2) for _ in range(source.randint(0, 1)))) for _ in range(many))
            duties = some_rows(source, many + (source.random() < 0.1), 0, 3, 0.3)
            rows = tuple(tuple(None if way is None else (way,) for way in row) for row in ways)
            try:
                house = house_of(ways, books, doors, duties)
            except NotUsable as raised:
                self.unusable(raised.word, dayhouse_of, 1, rows, books, doors, duties)
            except Unheard as raised:
                unheard += 1
                self.fails(Unheard, (raised.door, raised.other), dayhouse_of, 1, rows, books, doors, duties)
            else:
                self.same(dayhouse_of(1, rows, books, doors, duties), same_day(house, 1))
        self.assertGreater(unheard, 5)

    def test_wrong(self):
        for day in NOT_NUMBERS + (0,):
            self.unusable("day", dayhouse_of, day, None, None, None, None)
            self.unusable("day", same_day, SHOP, day)
        for path, values in (((1,), NOT_TUPLES + ((),)), ((1, 0), NOT_TUPLES + ((),)),
                             ((1, 1, 0), NOT_TUPLES[1:] + ((), (2,) * 3, (2,) * 5, (2, 2, 2, True), (2, 2, 0, 3))),
                             ((1, 0, 0), NOT_TUPLES + ((0, 0, 0, 1), (1, 1, 1, 1)))):
            for value in values:
                self.unusable("ways", dayhouse_of, *with_part(FERRY, path, value))
                self.unusable("ways", dayhouse_of, *with_item(with_part(FERRY, path, value), 2, None))
        # Ways that handing on shortens are well.
        self.same(dayhouse_of(*with_part(CIRCLE, (1, 0, 2), (9, 9, 9)))[1][0][2], slow_row(CIRCLE[1], 0, 2))
        self.unusable("books", dayhouse_of, *with_item(with_item(FERRY, 2, ("rows",)), 3, None))
        self.unusable("doors", dayhouse_of, *with_item(with_item(FERRY, 3, ()), 4, None))
        self.unusable("duties", dayhouse_of, *with_item(FERRY, 4, ((0, 0),)))
        deaf = with_part(FERRY, (1, 0, 1), None)
        self.fails(Unheard, (1, 0), dayhouse_of, *deaf)
        self.unusable("duties", dayhouse_of, *with_item(deaf, 4, ()))
        for value in NOT_TUPLES + tuple(with_item((1, 2, 3), 2, one) for one in NOT_NUMBERS):
            self.unusable("waits", same_rows, 2, value)
        for value in NOT_NUMBERS:
            self.unusable("units", same_delays, 2, value)


def slow_row(ways, place, there):
    """The delays by handing on, without the way itself."""
    day = len(ways[place][place])
    shut = with_part(ways, (place, there), None)
    return tuple(slow_closed(day, shut, place, there, hour) for hour in range(day))
