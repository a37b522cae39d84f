"""Plans and their runs: [83] to [86], (G12)."""

import itertools

from bestunmoved.errors import InvalidPaper
from bestunmoved.historychecker import lets_history
from bestunmoved.news import latest_news, quick_news
from bestunmoved.orders import keeps_order
from bestunmoved.planruns import plan_run, plan_spoilt, plan_standing
from bestunmoved.plans import answer_of, changes_of, extended, is_plan, lets_plan, next_limit, triple_of
from bestunmoved.stampruns import stamp_run
from bestunmoved.standings import standing_of
from bestunmoved.tables import table_of
from tests.helpers import (BIG, NOT_INTEGERS, NOT_NUMBERS, NOT_TUPLES, SHOP, Case, chance, slow_suits, with_item,
                           with_part)
from tests.slowdeeds import slow_is_order, writes
from tests.slowplans import (slow_answer, slow_change, slow_plan_order, slow_plan_run, slow_triple, some_kept,
                             some_plan_runs, some_plans)
from tests.slowruns import place_of, some_runs

TABLE = ((0, 0), (2, 0))
PLAN = (((2, 0), (2, 0), 5), ((0, 2), (0, 0), None))
FOUR = (((2, 0), (2, 0), 5), ((0, 2), (0, 0), 7), ((1, 1), (1, 0), 9), ((0, 2), (0, 0), None))
ONE = (((1, 1), (1, 0), None),)


class Kinds(Case):

    def test_accepted(self):
        for plan in (PLAN, FOUR, ONE, FOUR[:2] + FOUR[1:], (FOUR[0],) * 9 + ONE):
            self.same((is_plan(TABLE, 1, plan), lets_plan(TABLE, 1, plan)), (True, len(plan)))
        for house, grain, plan in some_plans(100, 830, -9):
            self.same(lets_plan(table_of(house), grain, plan), len(plan))

    def refused(self, word, at, thing, grain=1):
        self.fails(InvalidPaper, (word, at), lets_plan, TABLE, grain, thing)
        self.same(is_plan(TABLE, grain, thing), False)

    def test_words(self):
        for thing in NOT_TUPLES + ((), list(PLAN)):
            self.refused("shape", -1, thing)
        for at in range(4):
            for value in NOT_TUPLES + ((), FOUR[at][:2], FOUR[at] + (None,), list(FOUR[at])):
                self.refused("triple", at, with_item(FOUR, at, value))
            for value in NOT_TUPLES + ((), (2,), (2, 0, 0), [2, 0], (2, -1), (True, 2), (2, None)):
                self.refused("waits", at, with_part(FOUR, (at, 0), value))
            for value in NOT_TUPLES + ((), (0,), (0, 0, 0), [0, 0], (0, None), (True, 0)):
                self.refused("stamps", at, with_part(FOUR, (at, 1), value))
            self.refused("stamps", at, with_part(FOUR, (at, 1), (9, 0)))
            self.refused("stamps", at, with_part(FOUR, (at, 1), (0, 9)))
            for value in NOT_INTEGERS if at < 3 else NOT_INTEGERS[:2] + NOT_INTEGERS[3:] + (5,):
                self.refused("limit", at, with_part(FOUR, (at, 2), value))
        # Waits that are barred have no stamps that suit.
        self.refused("stamps", 0, (((0, 0), (0, 0), None),))
        # All of one triple come before those of the next one, and all of them before the changes.
        self.refused("limit", 0, (((2, 0), (2, 0), None), None))
        self.refused("waits", 0, ((None, None, None),))
        self.refused("triple", 3, with_part(FOUR[:3], (1, 2), -9) + (None,))

    def test_falls(self):
        # The doors change at (3, 5), (7, 7), (8, 9).
        self.same(changes_of(TABLE, 1, FOUR), ((3, 5), (7, 7), (8, 9)))
        self.same(lets_plan(TABLE, 1, with_part(FOUR, (1, 2), 5)), 4)
        self.refused("falls", 1, with_part(FOUR, (1, 2), 4))
        self.same(lets_plan(TABLE, 1, with_part(FOUR, (2, 2), 8)), 4)
        self.refused("falls", 2, with_part(FOUR, (2, 2), 7))
        self.refused("falls", 1, with_part(with_part(FOUR, (1, 2), 4), (2, 2), 0))
        self.same(lets_plan(TABLE, 1, with_part(FOUR[:1], (0, 2), -99) + ONE), 2)
        # At another grain they are other changes.
        self.refused("falls", 2, with_part(FOUR, (2, 2), 8), 2)
        self.same(lets_plan(TABLE, 2, FOUR), 4)

    def test_by_definition(self):
        source = chance(831)
        found = [0, 0]
        for house, grain, plan in some_plans(400, 832):
            table = table_of(house)
            at = source.randrange(len(plan))
            some = plan
            if at < len(plan) - 1:
                some = with_part(plan, (at, 2), plan[at][2] + source.randint(-9, 9))
            else:
                some = with_part(plan, (at, 1, 0), plan[at][1][0] + source.randint(-3, 3))
            wrong = [("stamps", k) for k, triple in enumerate(some) if not slow_suits(table, *triple[:2])]
            wrong += [("falls", k) for k in range(1, len(some) - 1) if any(
                slow_change(grain, some[k], x) < slow_change(grain, some[k - 1], x) for x in range(len(table)))]
            found[wrong == []] += 1
            if wrong:
                self.fails(InvalidPaper, wrong[0], lets_plan, table, grain, some)
            else:
                self.same(lets_plan(table, grain, some), len(some))
            self.same(is_plan(table, grain, some), wrong == [])
        self.assertGreater(min(found), 50)


class Plans(Case):

    def test_by_sums(self):
        later = 0
        for house, grain, plan in some_plans(250, 840, -9):
            table = table_of(house)
            many = range(len(table))
            self.same(changes_of(table, grain, plan),
                      tuple(tuple(slow_change(grain, triple, x) for x in many) for triple in plan[:-1]))
            for door, moment in itertools.product(many, range(-15, 40)):
                got = answer_of(table, grain, plan, door, moment)
                self.same(triple_of(table, grain, plan, door, moment), slow_triple(grain, plan, door, moment))
                self.same(got, slow_answer(table, grain, plan, door, moment))
                later += got > moment + grain * plan[slow_triple(grain, plan, door, moment)][0][door]
        self.assertGreater(later, 150)

    def test_no_answer_is_too_late(self):
        # (G12): by no more than the greatest of its door's waits so far, and by its own but shortly after a change.
        late = 0
        for house, grain, plan in some_plans(250, 841, -9):
            table = table_of(house)
            for door, moment in itertools.product(range(len(table)), range(-15, 40)):
                own = slow_triple(grain, plan, door, moment)
                waits = [plan[k][0][door] for k in range(own + 1)]
                took = answer_of(table, grain, plan, door, moment) - moment
                self.assertLessEqual(took, grain * max(waits))
                if took > grain * waits[-1]:
                    late += 1
                    self.assertTrue(any(moment - slow_change(grain, plan[k], door) < grain * (waits[k] - waits[-1])
                                        for k in range(own)))
        self.assertGreater(late, 100)

    def test_no_answer_sooner(self):
        # (G12): a sooner answer would be surely ahead of a moment that stands ahead of it.
        asked = 0
        for house, grain, plan in some_plans(250, 842):
            table = table_of(house)
            for door, moment in itertools.product(range(len(table)), range(30)):
                own = slow_triple(grain, plan, door, moment)
                answer = answer_of(table, grain, plan, door, moment)
                if answer == moment + grain * plan[own][0][door]:
                    continue
                asked += 1
                ahead = [(y, k, slow_change(grain, plan[k], y)) for k in range(own) for y in range(len(table))
                         if y != door and table[door][y] is not None]
                self.assertTrue(any(last + grain * table[door][y] > answer - 1 and last >= 0
                                    and slow_triple(grain, plan, y, last) <= k for y, k, last in ahead))
        self.assertGreater(asked, 100)

    def test_edges(self):
        # At a change itself the earlier triple, one beat later the next one.
        self.same([triple_of(TABLE, 1, PLAN, 0, moment) for moment in (-99, 3, 4, 99)], [0, 0, 1, 1])
        self.same([triple_of(TABLE, 1, PLAN, 1, moment) for moment in (5, 6)], [0, 1])
        self.same([answer_of(TABLE, 1, PLAN, 0, moment) for moment in (3, 4, 5, 6)], [5, 5, 5, 6])
        self.same([answer_of(TABLE, 1, PLAN, 1, moment) for moment in (5, 6)], [5, 8])
        self.same((changes_of(TABLE, 1, ONE), triple_of(TABLE, 1, ONE, 1, 10 ** 40), answer_of(TABLE, 1, ONE, 1, 10 ** 40)),
                  ((), 0, 10 ** 40 + 1))
        # Changes below 0; triples that no moment of a door is under.
        early = with_part(PLAN, (0, 2), -7)
        self.same((changes_of(TABLE, 2, early), triple_of(TABLE, 2, early, 0, 0)), (((-11, -7),), 1))
        same = FOUR[:1] * 3 + ONE
        self.same([triple_of(TABLE, 1, same, 0, moment) for moment in (3, 4)], [0, 3])
        big = with_part(with_part(PLAN, (0, 0), (BIG, BIG)), (0, 1), (BIG - 5, 0))
        self.same(changes_of(TABLE, 10 ** 6, big), ((5 - 10 ** 6 * (BIG - 5), 5),))
        # One door alone has no entries.
        self.same(answer_of(((0,),), 1, (((9,), (0,), 5), ((0,), (0,), None)), 0, 6), 6)

    def test_next_limit_and_extended(self):
        source = chance(843)
        kept = 0
        for house, grain, plan in some_plans(250, 844, -9):
            table = table_of(house)
            moment = source.randint(-20, 40)
            limit = next_limit(table, grain, plan, moment)
            waits, stamps = some_kept(source, table)

            def fine(some):
                changes = [some - grain * stamp for stamp in plan[-1][1]]
                before = [slow_change(grain, plan[-2], x) for x in range(len(table))] if len(plan) > 1 else changes
                return all(c >= moment and c >= b for c, b in zip(changes, before))
            self.same((fine(limit), fine(limit - 1)), (True, False))
            for more in (0, 3):
                longer = extended(table, grain, plan, limit + more, waits, stamps)
                self.same(longer, plan[:-1] + (plan[-1][:2] + (limit + more,), (waits, stamps, None)))
                self.same(lets_plan(table, grain, longer), len(plan) + 1)
                # [86]: up to this moment it keeps its triples and answers.
                for door, asked in itertools.product(range(len(table)), range(moment - 25, moment + 1)):
                    kept += 1
                    self.same(triple_of(table, grain, longer, door, asked), triple_of(table, grain, plan, door, asked))
                    self.same(answer_of(table, grain, longer, door, asked), answer_of(table, grain, plan, door, asked))
            # The least limit that is let at all.
            least = next_limit(table, grain, plan, -10 ** 40)
            if len(plan) > 1:
                self.same(len(extended(table, grain, plan, least, waits, stamps)), len(plan) + 1)
                self.unusable("limit", extended, table, grain, plan, least - 1, waits, stamps)
            else:
                self.same(len(extended(table, grain, plan, -10 ** 40, waits, stamps)), 2)
        self.assertGreater(kept, 1000)

    def test_wrong(self):
        for value in NOT_NUMBERS + (0,):
            self.unusable("grain", is_plan, TABLE, value, None)
            self.unusable("grain", lets_plan, TABLE, value, None)
        for value in NOT_TUPLES + ((), PLAN[:1], with_part(FOUR, (1, 2), 4)):
            self.unusable("plan", answer_of, TABLE, 1, value, None, None)
        for value in NOT_NUMBERS + (2,):
            self.unusable("door", answer_of, TABLE, 1, PLAN, value, None)
        for value in NOT_INTEGERS:
            self.unusable("moment", triple_of, TABLE, 1, PLAN, 0, value)
            self.unusable("limit", extended, TABLE, 1, PLAN, value, None, None)
        self.unusable("limit", extended, TABLE, 1, PLAN, 4, None, None)
        self.unusable("waits", extended, TABLE, 1, PLAN, 5, (1,), None)
        # Barred is never raised: no stamps suit barred waits.
        self.unusable("stamps", extended, TABLE, 1, PLAN, 5, (0, 1), (0, 0))
        self.same(len(extended(TABLE, 1, FOUR, 99, (1, 1), (1, 0))), 5)


class Runs(Case):

    def test_by_the_post_office(self):
        spoilt = 0
        for house, grain, plan, asks, news in some_plan_runs(400, 850, 0.7, 12):
            run, due = slow_plan_run(house, grain, plan, asks, news)
            self.same(plan_standing(house, grain, plan, asks), slow_plan_order(grain, plan, asks))
            self.same(plan_run(house, grain, plan, asks, news), run)
            want = tuple(d for d in range(len(asks)) if run[d] != due[d])
            self.same(plan_spoilt(house, grain, plan, asks, news), want)
            lets_history(house, run)
            spoilt += want != ()
        self.assertGreater(spoilt, 40)

    def test_news_in_time(self):
        # (G12), [86]: none is spoilt, the deeds as they stand are an order.
        for house, grain, plan, asks, news in some_plan_runs(400, 851, late=0):
            for told in (news, latest_news(house, grain, asks), quick_news(house, asks)):
                self.same(plan_spoilt(house, grain, plan, asks, told), ())
                history = plan_run(house, grain, plan, asks, told)
                self.same(keeps_order(house, grain, history, plan_standing(house, grain, plan, asks)), True)

    def test_any_news(self):
        # [86]: they lack a deed that stands ahead, is seen, and is not known; without any it is an order.
        orders = [0, 0]
        for house, grain, plan, asks, news in some_plan_runs(300, 852, 0.6, 12):
            order = plan_standing(house, grain, plan, asks)
            history = plan_run(house, grain, plan, asks, news)
            lacks = []
            for deed, (door, _, answered, _) in enumerate(history):
                place = place_of(house, door)
                ahead = [d for d in order[:order.index(deed)]
                         if any(writes(house, asks[d][0], book) for book in house[2][door][2])]
                lacks.append(any(news[d][place] is None or asks[d][1] + news[d][place] > answered for d in ahead))
            spoilt = plan_spoilt(house, grain, plan, asks, news)
            self.same(spoilt, tuple(d for d in range(len(asks)) if lacks[d]))
            orders[spoilt == ()] += 1
            if spoilt == ():
                self.same(slow_is_order(house, grain, history, order), True)
        self.assertGreater(min(orders), 40)

    def test_one_triple_runs_as_stamp_run(self):
        source = chance(853)
        for house, grain, _, _, asks, news in some_runs(150, 854):
            waits, stamps = some_kept(source, table_of(house))
            plan = ((waits, stamps, None),)
            self.same(plan_run(house, grain, plan, asks, news), stamp_run(house, grain, waits, stamps, asks, news))
            self.same(plan_standing(house, grain, plan, asks), standing_of(house, grain, stamps, asks))

    def test_edges(self):
        self.same((plan_run(SHOP, 1, FOUR, (), ()), plan_spoilt(SHOP, 1, PLAN, (), ()), plan_standing(SHOP, 1, PLAN, ())),
                  ((), (), ()))
        # The writer's deed of 4 stands behind the looker's of 5, in an earlier triple, with a lesser stamp too.
        asks = ((0, 4), (1, 5), (1, 6))
        self.same(plan_standing(SHOP, 1, PLAN, asks), (1, 0, 2))
        self.same(plan_run(SHOP, 1, PLAN, asks, ((0, 2), (0, 0), (0, 0))),
                  ((0, 4, 5, ()), (1, 5, 5, ((),)), (1, 6, 8, ((0,),))))
        self.same(plan_spoilt(SHOP, 1, PLAN, asks, ((0, 5), (0, 0), (0, 0))), (2,))
        forty = tuple((k % 2, k // 3) for k in range(40))
        news = latest_news(SHOP, 1, forty)
        self.same((len(plan_run(SHOP, 1, FOUR, forty, news)), plan_spoilt(SHOP, 1, FOUR, forty, news)), (40, ()))
        self.unusable("plan", plan_standing, SHOP, 1, with_part(FOUR, (1, 2), 4), None)
        self.unusable("asks", plan_run, SHOP, 1, FOUR, ((0, 4), (1, 3)), None)
        self.unusable("news", plan_spoilt, SHOP, 1, FOUR, asks, ((0, 2), (0, 0)))
        self.unusable("news", plan_run, SHOP, 1, FOUR, asks, ((0, None), (0, 0), (0, 0)))
