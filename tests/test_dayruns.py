"""Runs of dayhouses, their lines and objects: [71], [72], (G9)."""

import itertools

from bestunmoved.dayclasses import Daybook
from bestunmoved.dayhouses import longest_house, same_day, same_rows
from bestunmoved.dayjudge import day_kept, day_ring, day_stamps
from bestunmoved.daypapers import lets_day_ring
from bestunmoved.dayruns import (day_breaking, day_run, day_spoilt, is_day_asks, is_day_news, late_day_letters,
                                 latest_day_news)
from bestunmoved.daytexts import read_rows, read_ships, rows_line, ships_line
from bestunmoved.errors import Barred, InvalidRow, InvalidText
from bestunmoved.historychecker import lets_history
from bestunmoved.leastrows import least_row, lowered_rows
from bestunmoved.orders import keeps_order
from bestunmoved.stampruns import stamp_run
from bestunmoved.verdictchecker import lets_verdict
from bestunmoved.verdicts import verdict_of
from tests.helpers import BIG, NOT_NUMBERS, NOT_TUPLES, SHOP, Case, chance, with_item, with_part
from tests.slowdays import (CIRCLE, FERRY, LEAST, NONE, slow_day_due, slow_day_kept, slow_day_order, slow_day_run,
                            slow_day_word, some_day_news, some_day_runs, some_day_stamps, some_days)
from tests.slowdeeds import slow_words
from tests.slowruns import some_asks

ASKS = ((0, 0), (1, 1))
NEWS = ((0, 3), (2, 0))


class Kinds(Case):

    def test_asks(self):
        for thing in ((), ASKS, ((1, 10 ** 40),), ((0, 5),) * 40):
            self.same(is_day_asks(FERRY, thing), True)
        for thing in NOT_TUPLES + ([], list(ASKS), ASKS[::-1], ((2, 0),), ((0,),), ((0, 0, 0),), ((0, -1),), ([0, 0],),
                                   ((0, True),), ((True, 0),), ((0, None),), ((None, 0),), (0, 0)):
            self.same(is_day_asks(FERRY, thing), False)

    def test_news(self):
        for thing in (NEWS, ((0, 10 ** 40), (0, 0)), ((0, 0), (9, 0))):
            self.same(is_day_news(FERRY, ASKS, thing), True)
        self.same(is_day_news(FERRY, (), ()), True)
        for thing in NOT_TUPLES + ((), NEWS[:1], NEWS + NEWS[:1], list(NEWS), ((1, 3), (2, 0)), ((0, None), (2, 0)),
                                   ((0, -1), (2, 0)), ((0, True), (2, 0)), ((0,), (2, 0)), ((0, 3), [2, 0]),
                                   ((False, 3), (2, 0)), ((None, 3), (2, 0))):
            self.same(is_day_news(FERRY, ASKS, thing), False)
        deaf = with_part(FERRY, (1, 1, 0), None)
        self.same([is_day_news(deaf, ASKS, news) for news in (NEWS, ((0, 3), (None, 0)))], [False, True])

    def test_latest_and_late(self):
        self.same(latest_day_news(FERRY, ((0, 0), (0, 3), (1, 5), (0, 6))), ((0, 3), (0, 4), (2, 0), (0, 1)))
        self.same(latest_day_news(FERRY, ((0, 10 ** 40 + 3),)), ((0, 4),))
        self.same((latest_day_news(FERRY, ()), late_day_letters(FERRY, (), ())), ((), ()))
        self.same(late_day_letters(FERRY, ASKS, ((0, 4), (3, 0))), ((0, 1), (1, 0)))
        self.same(late_day_letters(FERRY, ASKS, NEWS), ())
        late = 0
        for dayhouse, _, _, asks, news in some_day_runs(150, 710):
            latest = latest_day_news(dayhouse, asks)
            self.assertTrue(is_day_news(dayhouse, asks, latest))
            want = []
            for deed, (door, hour) in enumerate(asks):
                for place, delays in enumerate(dayhouse[1][dayhouse[3][door][0]]):
                    self.same(latest[deed][place], None if delays is None else delays[hour % dayhouse[0]])
                    if delays is not None and news[deed][place] > delays[hour % dayhouse[0]]:
                        want.append((deed, place))
            self.same(late_day_letters(dayhouse, asks, news), tuple(want))
            self.same(late_day_letters(dayhouse, asks, latest), ())
            late += want != []
        self.assertGreater(late, 30)


class Runs(Case):

    def test_by_the_post_office(self):
        spoilt = 0
        for dayhouse, dayrows, stamps, asks, news in some_day_runs(400, 711, late=0.4):
            want = slow_day_run(dayhouse, dayrows, stamps, asks, news)
            due = slow_day_due(dayhouse, dayrows, stamps, asks)
            self.same(day_run(dayhouse, dayrows, stamps, asks, news), want)
            unlike = tuple(d for d in range(len(asks)) if want[d] != due[d])
            self.same(day_spoilt(dayhouse, dayrows, stamps, asks, news), unlike)
            lets_history(dayhouse[1:], want)
            spoilt += unlike != ()
        self.assertGreater(spoilt, 30)

    def test_by_hand(self):
        late = with_part(NEWS, (0, 1), 4)
        self.same(day_spoilt(FERRY, LEAST, NONE, ASKS, late), (1,))
        self.same(day_run(FERRY, LEAST, NONE, ASKS, late), ((0, 0, 0, ()), (1, 1, 3, ((),))))
        # A record that comes in the hour of the answer is known.
        self.same(day_spoilt(FERRY, LEAST, NONE, ASKS, NEWS), ())
        # Two hours' stamps: the writer's deed of 1 stands behind the looker's of 1, or ahead of it.
        asks = ((0, 1), (1, 1))
        ahead = ((0,) * 4, (1,) * 4)
        for stamps, shown in ((NONE, ((0,),)), (ahead, ((0,),)), ((ahead[1], ahead[0]), ((),))):
            self.same(day_run(FERRY, ((0,) * 4, (9,) * 4), stamps, asks, ((0, 0), (0, 0)))[1][3], shown)
        self.same((day_run(FERRY, NONE, NONE, (), ()), day_spoilt(FERRY, NONE, NONE, (), ())), ((), ()))

    def test_suiting_stamps(self):
        # (G9), [72]: with news in time nothing is spoilt, the deeds as they stand are an order.
        source = chance(712)
        orders = 0
        for dayhouse, dayrows, _, asks, news in some_day_runs(400, 713, late=0):
            if not day_kept(dayhouse, dayrows):
                continue
            stamps = day_stamps(dayhouse, dayrows)
            house = longest_house(dayhouse)
            for told in (news, latest_day_news(dayhouse, asks)):
                self.same(day_spoilt(dayhouse, dayrows, stamps, asks, told), ())
                history = day_run(dayhouse, dayrows, stamps, asks, told)
                self.same(keeps_order(house, 1, history, slow_day_order(dayhouse, stamps, asks)), True)
                self.same(verdict_of(house, 1, history)[0], "order")
                orders += len(asks) > 2
        self.assertGreater(orders, 100)

    def test_the_same_at_all_hours(self):
        source = chance(714)
        for k in range(60):
            waits = (source.randint(0, 2), source.randint(0, 3))
            stamps = (source.randint(-3, 3), source.randint(-3, 3))
            asks = some_asks(source, SHOP, k % 6)
            dayhouse = same_day(SHOP, 3)
            news = some_day_news(source, dayhouse, asks, 0.3)
            # A door's number counts with equal stamps alone: in units of as many as there are doors.
            rows = tuple((2 * stamp,) * 3 for stamp in stamps)
            self.same(day_run(dayhouse, same_rows(3, waits), rows, asks, news),
                      stamp_run(SHOP, 1, waits, stamps, asks, news))

    def test_breaking(self):
        broken = 0
        source = chance(715)
        for dayhouse, dayrows in some_days(250, 716, most=2):
            stamps = some_day_stamps(source, dayhouse)
            got = day_breaking(dayhouse, dayrows, stamps)
            if slow_day_kept(dayhouse, dayrows):
                self.same(got, None)
                continue
            broken += 1
            asks, history, ring = got
            self.same(is_day_asks(dayhouse, asks), True)
            self.same(len({door for door, _ in asks}), len(asks))
            # The hours of a barring ring, in some sequence.
            self.assertTrue(any(all(slow_day_word(dayhouse, dayrows, one, other)
                                    for one, other in zip(some, some[1:] + some[:1]))
                                for some in itertools.permutations(asks)))
            self.same(history, day_run(dayhouse, dayrows, stamps, asks, latest_day_news(dayhouse, asks)))
            house = longest_house(dayhouse)
            self.same(lets_verdict(house, 1, history, ("ring", ring)), "ring")
            self.assertTrue(all(slow_words(house, 1, history, one, other)
                                for one, other in zip(ring, ring[1:] + ring[:1])))
        self.assertGreater(broken, 40)
        self.same(day_breaking(FERRY, LEAST, NONE), None)


class Lines(Case):

    def test_rows(self):
        for dayhouse, dayrows in some_days(60, 717, most=2000):
            text = rows_line(dayhouse, dayrows)
            self.same(text, "; ".join(" ".join(map(str, row)) for row in dayrows))
            self.same(read_rows(dayhouse, text), dayrows)
        self.same(read_rows(FERRY, "0 %d 0 0; 3 2 1 0" % BIG), ((0, BIG, 0, 0), LEAST[1]))
        self.same(read_rows(same_day(((((0,),)), (), ((0, (), ()),), ((0,),)), 1), "7"), ((7,),))

    def test_wrong_rows(self):
        for text, line, field in [
                ("", 0, 0), ("-", 0, 0), (" ", 0, 0), ("0", 0, 1), ("0 0 0", 0, 3), ("0 0 0 ", 0, 3), ("0 0 0 0", 1, 0),
                ("0 0 0 0;", 0, 3), ("0 0 0 0; ", 1, 0), ("0 0 0 0 0", 0, 4), ("0 0 0 0 x", 0, 4), ("0 01 0 0", 0, 1),
                ("0 00 0 0", 0, 1), ("0 -1 0 0", 0, 1), ("0 +1 0 0", 0, 1), ("0  0 0", 0, 1), ("x 0 y", 0, 0),
                ("0 0 0 0; 0 0 0", 1, 3), ("0 0 0 0; 0 0 0 0 ", 1, 4), ("0 0 0 0;0 0 0 0", 0, 3), ("0 0 0 0; 1; 2", 1, 1),
                ("0 0 0 0; 0 0 0 0; 0 0 0 0", 2, 0), ("0 0 0 0; 0 0 0 0; x", 2, 0), ("0 0 0 0; 0 0 0 0; ", 2, 0),
                ("0 0 0 0; 0 0 0 0; x; 0", 2, 0), ("0 0 0; 0", 0, 3), ("0 0 0 0; 0 0 0 1.5", 1, 3), ("0,0 0 0 0", 0, 0)]:
            self.fails(InvalidText, (line, field), read_rows, FERRY, text)

    def test_ships(self):
        source = chance(718)
        for _ in range(60):
            day = source.randint(1, 24)
            ships = tuple((source.randrange(day), source.randint(0, 99)) for _ in range(source.randint(1, 9)))
            text = ships_line(day, ships)
            self.same(text, "; ".join("%d %d" % ship for ship in ships))
            self.same(read_ships(day, text), ships)
        self.same(read_ships(4, "3 %d" % BIG), ((3, BIG),))

    def test_wrong_ships(self):
        for text, line, field in [
                ("", 0, 0), ("-", 0, 0), ("1", 0, 1), ("1 ", 0, 1), ("1 2 3", 0, 2), ("1 2 ", 0, 2), (" 1 2", 0, 0),
                ("01 2", 0, 0), ("1 02", 0, 1), ("-1 2", 0, 0), ("1 -2", 0, 1), ("1 2;", 0, 1), ("1 2; ", 1, 0),
                ("1 2; 3", 1, 1), ("1 2; 3 x", 1, 1), ("9 x", 0, 1), ("9 2 3", 0, 2), ("1 2; 9", 1, 1), ("1 x; 9 2", 0, 1)]:
            self.fails(InvalidText, (line, field), read_ships, 4, text)
        for text, line in [("4 0", 0), ("4 0; x", 0), ("1 2; 9 9; 0", 1), ("%d 0" % BIG, 0), ("3 0; 4 0", 1)]:
            self.fails(InvalidRow, (line,), read_ships, 4, text)
        self.fails(InvalidText, (0, 1), read_ships, 4, "1 x; 9 9")
        self.fails(InvalidRow, (0,), read_ships, 1, "1 0")
        for value in NOT_TUPLES:
            if not isinstance(value, str):
                self.unusable("text", read_ships, 4, value)
                self.unusable("text", read_rows, FERRY, value)


class Books(Case):

    def test_methods(self):
        for dayhouse, dayrows in some_days(60, 719):
            book = Daybook(dayhouse, dayrows)
            self.same(book.told(), (dayhouse, dayrows))
            self.same((book.kept(), book.ring()), (day_kept(dayhouse, dayrows), day_ring(dayhouse, dayrows)))
            self.same(book.answer(0, -5), -5 + dayrows[0][-5 % dayhouse[0]])
            order = tuple(range(len(dayrows)))[::-1]
            for door in order:
                self.same(book.least(door), least_row(dayhouse, dayrows, door))
            if book.kept():
                self.same(book.stamps(), day_stamps(dayhouse, dayrows))
                lower = book.bare(order)
                self.assertIs(lower.__class__, Daybook)
                self.same(lower.told(), (dayhouse, lowered_rows(dayhouse, dayrows, order)))
                self.same(book.told(), (dayhouse, dayrows))
            else:
                for call, args in ((book.stamps, ()), (book.bare, (order,))):
                    with self.assertRaises(Barred) as held:
                        call(*args)
                    lets_day_ring(dayhouse, dayrows, held.exception.ring)
        book = Daybook(FERRY, LEAST)
        self.same(book.run(NONE, ASKS, NEWS), day_run(FERRY, LEAST, NONE, ASKS, NEWS))
        self.same(book.run(news=NEWS, asks=ASKS, stamps=NONE), day_run(FERRY, LEAST, NONE, ASKS, NEWS))

    def test_equal(self):
        book = Daybook(FERRY, LEAST)
        self.assertTrue(book == Daybook(FERRY, LEAST) and not book != Daybook(FERRY, LEAST))
        for other in (Daybook(FERRY, NONE), Daybook(with_part(FERRY, (4, 0, 1), 1), LEAST), (FERRY, LEAST), None, 0, book.told(),
                      FERRY, "book"):
            self.assertTrue(book != other and not book == other)

    def test_wrong(self):
        for value in NOT_TUPLES + ((), FERRY[:4], SHOP, list(FERRY), with_part(CIRCLE, (1, 0, 2), (9, 9, 9))):
            self.unusable("dayhouse", Daybook, value, None)
        for value in NOT_TUPLES + ((), LEAST[:1], with_part(LEAST, (0, 0), -1)):
            self.unusable("dayrows", Daybook, FERRY, value)
        book = Daybook(FERRY, LEAST)
        for value in NOT_NUMBERS + (2,):
            self.unusable("door", book.least, value)
            self.unusable("door", book.answer, value, None)
        self.unusable("hour", book.answer, 0, True)
        self.unusable("order", book.bare, (0, 0))
        self.unusable("stamps", book.run, with_item(NONE, 0, ()), None, None)
        self.unusable("asks", book.run, NONE, ASKS[::-1], None)
        self.unusable("news", book.run, NONE, ASKS, NEWS[:1])
