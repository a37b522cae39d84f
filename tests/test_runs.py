"""Asks, news and runs by stamps: [53] to [56], and of (G2), (G3) and [59] what speaks of them."""

from bestunmoved.askkinds import asks_of, is_asks, is_news
from bestunmoved.coarse import coarse_stamps, is_kept_at
from bestunmoved.errors import NotUsable
from bestunmoved.historykinds import first_fault
from bestunmoved.judging import is_kept
from bestunmoved.news import in_time, known_at, late_letters, latest_news, quick_news
from bestunmoved.orders import keeps_order
from bestunmoved.stampruns import stamp_run
from bestunmoved.stamps import least_stamps, suits
from bestunmoved.standings import due_run, stamp_of, standing_of
from bestunmoved.tables import table_of
from tests.helpers import (BIG, LONE, NOT_INTEGERS, NOT_NUMBERS, NOT_TUPLES, SHOP, Case, big_house, chance, with_part)
from tests.slowdeeds import books_of, seen_house, slow_is_order, slow_orders, writes
from tests.slowruns import (POST, POST_ASKS, place_of, post_office, put_together, slow_answers, slow_due, slow_order,
                            slow_run, some_asks, some_news, some_runs)

ASKS = ((0, 0), (1, 3))
NEWS = ((0, 4), (4, 0))
POST_NEWS = ((0, 4, None), (2, 0, None), (0, 9, None), (0, 0, None), (5, 0, None), (4, 3, 0), (2, 0, None))


class Asks(Case):

    def test_is_asks(self):
        for thing in ((), ((0, 0),), ASKS, ((1, 3), (0, 3), (1, 3)), ((0, 10 ** 40), (1, 10 ** 41))):
            self.same(is_asks(SHOP, thing), True)
        for thing in NOT_TUPLES + (((0,),), ((0, 0, 0),), ([0, 0],), [(0, 0)], ((1, 3), (0, 2)), ((2, 0),), ("00",),
                                   ((0, 0), None), ((0, 0), (0, 1), (0, 0)), (0, 0), ((0, (0,)),)):
            self.same(is_asks(SHOP, thing), False)
        for value in NOT_NUMBERS:
            for path in ((0, 0), (1, 0), (0, 1), (1, 1)):
                self.same(is_asks(SHOP, with_part(ASKS, path, value)), False)
        self.same(is_asks(SHOP, ((0, 1),) * 41), True)

    def test_asks_of(self):
        self.same((asks_of(SHOP), asks_of(house=SHOP)), ((), ()))
        self.same(asks_of(SHOP, (1, 3), (0, 0)), ASKS)
        # By moment; those of one moment in the sequence in which they are given.
        self.same(asks_of(SHOP, (1, 3), (0, 5), (0, 3), (1, 0), (1, 3), (0, 0)),
                  ((1, 0), (0, 0), (1, 3), (0, 3), (1, 3), (0, 5)))
        source = chance(53)
        for k in range(40):
            pairs = [(source.randrange(2), source.randint(0, 3)) for _ in range(k % 8)]
            got = asks_of(SHOP, *pairs)
            self.assertTrue(is_asks(SHOP, got))
            self.same(got, tuple(sorted(pairs, key=lambda pair: pair[1])))
        forty = [(k % 2, 39 - k) for k in range(40)]
        self.same(asks_of(SHOP, *forty), tuple(forty[::-1]))

    def test_wrong_pairs(self):
        for value in NOT_TUPLES + ((), (0,), (0, 0, 0), [0, 0], (2, 0), (-1, 0), (True, 0), (0, True), (0, -1), (0, None)):
            for at in range(3):
                pairs = [(0, 5), (1, 4), (0, 3)]
                pairs[at] = value
                self.fails(NotUsable, ("pairs", at), asks_of, SHOP, *pairs)
        self.fails(NotUsable, ("pairs", 1), asks_of, SHOP, (0, 0), None, None)


class News(Case):

    def test_is_news(self):
        for thing in (NEWS, ((0, 0), (0, 0)), ((0, 10 ** 40), (5, 0))):
            self.same(is_news(SHOP, ASKS, thing), True)
        self.same((is_news(SHOP, (), ()), is_news(LONE, ((0, 3),), ((0,),))), (True, True))
        self.same(is_news(POST, POST_ASKS, POST_NEWS), True)
        for thing in NOT_TUPLES + ((), NEWS[:1], NEWS + ((0, 4),), list(NEWS), ([0, 4], (4, 0)), ((0,), (4, 0)),
                                   ((0, 4, 0), (4, 0)), ((1, 4), (4, 0)), ((0, 4), (4, 1)), ((0, None), (4, 0)),
                                   ((None, 4), (4, 0)), ((0, 4), None), ((0, 4), 0)):
            self.same(is_news(SHOP, ASKS, thing), False)
        for value in NOT_NUMBERS:
            for path in ((0, 0), (0, 1), (1, 0), (1, 1)):
                self.same(is_news(SHOP, ASKS, with_part(NEWS, path, value)), False)
        # None just where no way leads.
        for k in range(len(POST_ASKS)):
            for place in range(3):
                entry = POST_NEWS[k][place]
                changed = with_part(POST_NEWS, (k, place), 1 if entry is None else None)
                self.same(is_news(POST, POST_ASKS, changed), False)

    def test_latest_and_quick(self):
        self.same(latest_news(SHOP, 2, ASKS), NEWS)
        self.same(quick_news(SHOP, ASKS), ((0, 0), (0, 0)))
        self.same((latest_news(SHOP, 1, ()), quick_news(SHOP, ())), ((), ()))
        self.same(latest_news(POST, 3, POST_ASKS[:2] + POST_ASKS[5:6]), ((0, 6, None), (3, 0, None), (12, 9, 0)))
        self.same(quick_news(POST, POST_ASKS[:2] + POST_ASKS[5:6]), ((0, 0, None), (0, 0, None), (0, 0, 0)))
        far = big_house()
        self.same(latest_news(far, 10 ** 6, ((0, 0),)), ((10 ** 36,) * 7 + (0,),))

    def test_late(self):
        self.same(late_letters(SHOP, 2, ASKS, NEWS), ())
        self.same(late_letters(SHOP, 2, ASKS, ((0, 5), (4, 0))), ((0, 1),))
        self.same(late_letters(SHOP, 2, ASKS, ((0, 5), (5, 0))), ((0, 1), (1, 0)))
        self.same(late_letters(SHOP, 1, (), ()), ())
        self.same(late_letters(POST, 1, POST_ASKS, POST_NEWS),
                  ((0, 1), (1, 0), (2, 1), (4, 0), (6, 0)))
        for house, grain, _, _, asks, news in some_runs(120, 54):
            want = []
            for deed, (door, _) in enumerate(asks):
                for place, way in enumerate(house[0][place_of(house, door)]):
                    if way is not None and news[deed][place] > grain * way:
                        want.append((deed, place))
            self.same(late_letters(house, grain, asks, news), tuple(want))
            self.same(in_time(house, grain, asks, news), want == [])
            for fine in (latest_news(house, grain, asks), quick_news(house, asks)):
                self.same((is_news(house, asks, fine), in_time(house, grain, asks, fine)), (True, True))

    def test_known(self):
        # From the moment on at which it comes.
        self.same([known_at(SHOP, ASKS, NEWS, 1, now) for now in (0, 2, 3, 4, 10 ** 40)],
                  [(), (), (1,), (0, 1), (0, 1)])
        self.same([known_at(SHOP, ASKS, NEWS, 0, now) for now in (0, 6, 7)], [(0,), (0,), (0, 1)])
        self.same(known_at(SHOP, (), (), 0, 5), ())
        self.same([known_at(POST, POST_ASKS, POST_NEWS, 2, now) for now in (0, 3, 4, 99)], [(), (), (5,), (5,)])
        for house, grain, waits, stamps, asks, news in some_runs(80, 55):
            answers = slow_answers(grain, waits, asks)
            found = post_office(house, asks, news, answers)
            for deed, answered in enumerate(answers):
                place = place_of(house, asks[deed][0])
                self.same(known_at(house, asks, news, place, answered), tuple(sorted(d for _, d in found[deed])))

    def test_wrong(self):
        for asks in NOT_TUPLES + (((1, 3), (0, 2)), ((2, 0),), ((0,),), ((0, True),)):
            self.unusable("asks", is_news, SHOP, asks, None)
            self.unusable("asks", latest_news, SHOP, 1, asks)
            self.unusable("asks", quick_news, SHOP, asks)
            self.unusable("asks", late_letters, SHOP, 1, asks, None)
            self.unusable("asks", in_time, SHOP, 1, asks, None)
            self.unusable("asks", known_at, SHOP, asks, None, None, None)
        for news in NOT_TUPLES + ((), ((0, 4),), ((0, None), (4, 0)), ((1, 4), (4, 0)), ((0, 4), (4, False))):
            self.unusable("news", late_letters, SHOP, 1, ASKS, news)
            self.unusable("news", in_time, SHOP, 1, ASKS, news)
            self.unusable("news", known_at, SHOP, ASKS, news, None, None)
        for grain in NOT_INTEGERS + (0, -1):
            self.unusable("grain", latest_news, SHOP, grain, None)
            self.unusable("grain", late_letters, SHOP, grain, None, None)
            self.unusable("grain", in_time, SHOP, grain, None, None)
        for value in NOT_NUMBERS:
            self.unusable("place", known_at, SHOP, ASKS, NEWS, value, None)
            self.unusable("moment", known_at, SHOP, ASKS, NEWS, 0, value)
        self.unusable("place", known_at, SHOP, ASKS, NEWS, 2, 0)


class Standings(Case):

    def test_stamps(self):
        self.same([stamp_of(SHOP, 2, (3, -4), ASKS, deed) for deed in (0, 1)], [6, -5])
        self.same(stamp_of(SHOP, 10 ** 6, (-BIG, 0), ((0, 10 ** 40),), 0), 10 ** 40 - 10 ** 36)
        self.same(standing_of(SHOP, 2, (3, -4), ASKS), (1, 0))
        self.same(standing_of(SHOP, 1, (0, 0), ()), ())
        # By stamp, then door, then number.
        self.same(standing_of(SHOP, 1, (0, 0), ((1, 2), (0, 2), (1, 2), (0, 2), (0, 3))), (1, 3, 0, 2, 4))
        self.same(standing_of(SHOP, 1, (0, -1), ((0, 2), (1, 2), (1, 3), (0, 3))), (1, 0, 2, 3))
        for house, grain, _, stamps, asks, _ in some_runs(120, 56):
            self.same(standing_of(house, grain, stamps, asks), slow_order(grain, stamps, asks))
            for deed, (door, moment) in enumerate(asks):
                self.same(stamp_of(house, grain, stamps, asks, deed), moment + grain * stamps[door])

    def test_due(self):
        self.same(due_run(SHOP, 2, (1, 0), (0, 0), ASKS), ((0, 0, 2, ()), (1, 3, 3, ((0,),))))
        self.same(due_run(SHOP, 2, (1, 0), (2, 0), ASKS), ((0, 0, 2, ()), (1, 3, 3, ((),))))
        self.same(due_run(SHOP, 1, (0, 0), (0, 0), ()), ())
        for run in some_runs(250, 57):
            self.same(due_run(*run[:5]), slow_due(*run[:5]))

    def test_wrong(self):
        for grain in NOT_INTEGERS + (0, -1):
            self.unusable("grain", stamp_of, SHOP, grain, None, None, None)
            self.unusable("grain", standing_of, SHOP, grain, None, None)
            self.unusable("grain", due_run, SHOP, grain, None, None, None)
            self.unusable("grain", stamp_run, SHOP, grain, None, None, None, None)
        for value in NOT_INTEGERS:
            self.unusable("stamps", stamp_of, SHOP, 1, (0, value), None, None)
            self.unusable("stamps", standing_of, SHOP, 1, (value, 0), None)
            self.unusable("stamps", due_run, SHOP, 1, (0, 0), (0, value), None)
            self.unusable("stamps", stamp_run, SHOP, 1, (0, 0), (0, value), None, None)
        for value in NOT_NUMBERS:
            self.unusable("waits", due_run, SHOP, 1, (0, value), None, None)
            self.unusable("waits", stamp_run, SHOP, 1, (0, value), None, None, None)
            self.unusable("deed", stamp_of, SHOP, 1, (0, 0), ASKS, value)
        self.unusable("deed", stamp_of, SHOP, 1, (0, 0), ASKS, 2)
        self.unusable("deed", stamp_of, SHOP, 1, (0, 0), (), 0)
        for asks in NOT_TUPLES + (((1, 3), (0, 2)), ((2, 0),), ((0,),), ((0, True),)):
            self.unusable("asks", stamp_of, SHOP, 1, (0, 0), asks, None)
            self.unusable("asks", standing_of, SHOP, 1, (0, 0), asks)
            self.unusable("asks", due_run, SHOP, 1, (0, 0), (0, 0), asks)
            self.unusable("asks", stamp_run, SHOP, 1, (0, 0), (0, 0), asks, None)
        for news in NOT_TUPLES + ((), ((0, 4),), ((0, None), (4, 0)), ((1, 4), (4, 0)), ((0, 4), (4, False))):
            self.unusable("news", stamp_run, SHOP, 1, (0, 0), (0, 0), ASKS, news)


class Runs(Case):

    def test_example(self):
        self.same(stamp_run(SHOP, 2, (1, 0), (0, 0), ASKS, NEWS), ((0, 0, 2, ()), (1, 3, 3, ((),))))

    def test_edges(self):
        self.same(stamp_run(SHOP, 1, (0, 0), (0, 0), (), ()), ())
        self.same(stamp_run(LONE, 1, (2,), (-1,), ((0, 5),), ((0,),)), ((0, 5, 7, ()),))
        # A letter that comes at the very moment of an answer is known; one that comes a beat later is not.
        for entry, shown in ((3, (0,)), (4, ())):
            self.same(stamp_run(SHOP, 2, (1, 0), (0, 0), ASKS, ((0, entry), (4, 0)))[1], (1, 3, 3, (shown,)))
        # Within a moment asks come ahead of answers: at one place, with waits of 0, both are known to each other.
        near = (((0,),), ("row",), ((0, (0,), (0,)), (0, (0,), (0,))), ((0, 0), (0, 0)))
        self.same(stamp_run(near, 1, (0, 0), (0, 0), ((1, 3), (0, 3), (1, 3)), ((0,), (0,), (0,))),
                  ((1, 3, 3, ((1,),)), (0, 3, 3, ((),)), (1, 3, 3, ((1, 0),))))
        # One with a lesser stamp is shown though it was asked later, if it is known by then.
        self.same(stamp_run(near, 1, (2, 0), (5, 0), ((0, 0), (1, 1), (1, 2), (1, 3)), ((0,),) * 4)[0],
                  (0, 0, 2, ((1, 2),)))
        # Shown in the row as they stand, in the lot ascending; books that nobody writes stay empty.
        self.same(stamp_run(POST, 1, (0, 3, 2, 0), (0, 0, -1, 0), POST_ASKS, POST_NEWS),
                  slow_run(POST, 1, (0, 3, 2, 0), (0, 0, -1, 0), POST_ASKS, POST_NEWS))

    def test_by_definition(self):
        several = 0
        for run in some_runs(400, 58):
            got = stamp_run(*run)
            self.same(got, slow_run(*run))
            self.same(first_fault(run[0], got), None)
            several += len({moment for _, moment in run[4]}) < len(run[4])
        self.assertGreater(several, 50)

    def test_forty(self):
        source = chance(59)
        asks = some_asks(source, POST, 40, 30)
        news = some_news(source, POST, 2, asks, 0.3)
        waits, stamps = (1, 3, 0, 2), (0, 2, -2, 1)
        self.same(stamp_run(POST, 2, waits, stamps, asks, news), slow_run(POST, 2, waits, stamps, asks, news))

    def test_great_numbers(self):
        grain = 10 ** 6
        house = (((0, BIG), (BIG, 0)),) + SHOP[1:]
        asks = ((0, 10 ** 40), (1, 10 ** 40 + 1))
        for wait, shown in ((BIG, (0,)), (BIG - 1, ())):
            got = stamp_run(house, grain, (0, wait), (0, 0), asks, latest_news(house, grain, asks))
            self.same(got[1][3], (shown,))

    def test_one_integer_more_on_all_stamps(self):
        for house, grain, waits, stamps, asks, news in some_runs(80, 60):
            more = tuple(stamp - 17 for stamp in stamps)
            self.same(stamp_run(house, grain, waits, more, asks, news), stamp_run(house, grain, waits, stamps, asks, news))
            self.same(due_run(house, grain, waits, more, asks), due_run(house, grain, waits, stamps, asks))


class Guarantees(Case):

    def test_suiting_stamps_and_news_in_time(self):
        done = 0
        for house, grain, waits, stamps, asks, news in some_runs(700, 61, late=0):
            table = table_of(house)
            if suits(table, waits, stamps):
                fine = stamps
            elif is_kept(table, waits):
                fine = least_stamps(table, waits)
            else:
                continue
            done += len(asks) > 1
            for told in (news, latest_news(house, grain, asks), quick_news(house, asks)):
                got = stamp_run(house, grain, waits, fine, asks, told)
                self.same(got, due_run(house, grain, waits, fine, asks))
                order = standing_of(house, grain, fine, asks)
                self.assertTrue(slow_is_order(house, grain, got, order))
        self.assertGreater(done, 100)

    def test_any_news(self):
        # With suiting stamps the deeds as they stand are an order exactly if no answer is spoilt.
        kinds = [0, 0]
        for house, grain, waits, stamps, asks, news in some_runs(900, 62, late=0.5):
            table = table_of(house)
            if not is_kept(table, waits):
                continue
            fine = least_stamps(table, waits)
            got = stamp_run(house, grain, waits, fine, asks, news)
            whole = got == due_run(house, grain, waits, fine, asks)
            self.same(keeps_order(house, grain, got, standing_of(house, grain, fine, asks)), whole)
            kinds[whole] += 1
        self.assertGreater(min(kinds), 30)

    def test_runs_by_coarse_stamps(self):
        # The last sentence of (G2), by an own run: deeds stand by moment times doors and coarse stamp.
        source = chance(63)
        done = barely = 0
        for k in range(600):
            house = SHOP if k % 3 == 0 else seen_house(source, doors=4)
            many = len(house[2])
            table = table_of(house)
            grain = source.randint(1, 2)
            waits = tuple(source.randint(0, 3) for _ in range(many))
            if not is_kept_at(table, grain, waits):
                continue
            coarse = coarse_stamps(table, grain, waits)
            asks = some_asks(source, house, source.randint(2, 6), 6)
            news = some_news(source, house, grain, asks, 0)
            order = sorted(range(len(asks)), key=lambda d: (asks[d][1] * many + coarse[asks[d][0]], asks[d][0], d))
            answers = slow_answers(grain, waits, asks)
            known = post_office(house, asks, news, answers)
            sequences = [[d for d in order[:order.index(deed)] if d in [e for _, e in known[deed]]]
                         for deed in range(len(asks))]
            history = put_together(house, asks, answers, sequences)
            self.assertTrue(slow_is_order(house, grain, history, tuple(order)))
            self.assertTrue(keeps_order(house, grain, history, tuple(order)))
            done += 1
            barely += not is_kept(table, waits)
        self.assertGreater(done, 100)
        self.assertGreater(barely, 5)

    def test_what_is_spoilt_lacks_what_is_not_known(self):
        for house, grain, waits, stamps, asks, news in some_runs(200, 64):
            got, due = stamp_run(house, grain, waits, stamps, asks, news), due_run(house, grain, waits, stamps, asks)
            order = slow_order(grain, stamps, asks)
            known = post_office(house, asks, news, slow_answers(grain, waits, asks))
            for deed, (door, _) in enumerate(asks):
                lacks = [d for d in order[:order.index(deed)] if d not in [e for _, e in known[deed]]
                         and any(writes(house, asks[d][0], book) for book in books_of(house, door))]
                self.same(got[deed] != due[deed], lacks != [])

    def test_small_runs_have_the_order_in_which_they_stand(self):
        for house, grain, waits, _, asks, news in some_runs(150, 65, most=4, late=0):
            table = table_of(house)
            if is_kept(table, waits):
                stamps = least_stamps(table, waits)
                history = stamp_run(house, grain, waits, stamps, asks, news)
                self.assertIn(slow_order(grain, stamps, asks), slow_orders(house, grain, history))
