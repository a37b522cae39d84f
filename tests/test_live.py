"""Open houses: [87] to [91], and [92]."""

import itertools

from bestunmoved.errors import InvalidEvent, NotUsable, NothingToUndo
from bestunmoved.live import LiveHouse
from bestunmoved.liveasks import LiveAsks
from bestunmoved.liveevents import is_event, is_log
from bestunmoved.orders import keeps_order
from bestunmoved.planruns import plan_run, plan_spoilt, plan_standing
from bestunmoved.plans import next_limit
from bestunmoved.reasons import reason_of
from bestunmoved.replaying import cut_log, replayed
from bestunmoved.tables import table_of
from tests.helpers import BIG, NOT_NUMBERS, NOT_TUPLES, SHOP, Case, chance, with_item, with_part
from tests.slowlive import SlowHouse, slow_event, slow_reason, some_live_event, some_start, told_by
from tests.slowplans import some_kept, some_plan
from tests.slowruns import POST, place_of, some_asks

START = (SHOP, 1, (2, 0), (2, 0))
CHANGE = ("change", 1, (0, 2), (0, 0), 6)
EVENTS = [("ask", 0), ("ask", BIG), ("wait", 1), ("wait", 10 ** 40), ("come", 0, 0), ("come", BIG, 9), ("hold", 0, 7),
          CHANGE, ("change", 0, (), (), 0), ("change", 5, (BIG,), (-BIG, 0, 0), -BIG)]
NOT_EVENTS = list(NOT_TUPLES) + [
    (), ("ask",), ("ask", 0, 0), ("asks", 0), ["ask", 0], ("wait", 0), ("wait",), ("wait", 1, 1), ("come", 0), ("come", 0, 0, 0),
    ("hold",), ("hold", 0), ("hold", 0, 0, 0), ("ask", (0,)), (0, 0), (None, 0), (("ask",), 0), (["ask"], 0), ("", 0), (True, 1),
    ("come", (0, 0)), ["come", 0, 0], list(CHANGE), CHANGE[:4], CHANGE + (0,), ("change", 0, [0], (0,), 5),
    ("change", 0, (0,), [0], 5), ("change", 0, 0, (0,), 5), ("change", 0, (0,), 0, 5), ("change", 0, (0,), None, 5),
    ("change", 0, (-1,), (0,), 5), ("change", 0, (True,), (0,), 5), ("change", 0, (0,), (False,), 5),
    ("change", 0, (0,), ("0",), 5), ("change", -1, (0,), (0,), 5), ("change", None, (0,), (0,), 5)]


def some_story(seed, count, holds=True, most=38):
    """As many open houses by their arguments, with events, let or not, and the slow house behind each."""
    source = chance(seed)
    for k in range(count):
        start = some_start(source, k)
        slow = SlowHouse(*start)
        events = []
        for _ in range(source.randint(0, most)):
            event = some_live_event(source, slow, holds)
            events.append((event, slow.reason(event)))
            if events[-1][1] is None:
                slow.go(event)
        yield start, events, slow


class Events(Case):

    def test_kinds(self):
        for event in EVENTS:
            self.same((is_event(event), slow_event(event)), (True, True))
        for event in NOT_EVENTS:
            self.same((is_event(event), slow_event(event)), (False, False), event)
        for event in EVENTS:
            for at in range(1, len(event)):
                if isinstance(event[at], int):
                    for value in NOT_NUMBERS:
                        fine = event[0] == "change" and at == 4 and value in (-1, -BIG) and not isinstance(value, bool)
                        self.same(is_event(with_item(event, at, value)), fine)
            self.same(is_event(with_item(event, 0, event[0] + "s")), False)

    def test_logs(self):
        self.same([is_log(()), is_log(tuple(EVENTS)), is_log(tuple(EVENTS) * 4)], [True] * 3)
        for thing in NOT_TUPLES + (list(EVENTS), EVENTS[0]):
            self.same(is_log(thing), False)
        for event in NOT_EVENTS:
            self.same([is_log((event,)), is_log((EVENTS[0], event))], [False] * 2)


class Reasons(Case):

    def test_each_word(self):
        # Deed 0 of the writer, its record not come to place 1; deed 1 of the looker, come to place 0.
        asks, news = ((0, 0), (1, 1)), ((0, None), (3, 0))
        plan = START[2:] + (None,)

        def asked(event, held=((0, 1),), now=3, some=(plan,), house=SHOP, grain=1):
            return reason_of(house, grain, some, asks, news, held, now, event)
        for event in NOT_EVENTS:
            self.same(asked(event), "shape")
        self.same([asked(("ask", door)) for door in (0, 1, 2, BIG)], [None, None, "door", "door"])
        self.same([asked(("wait", beats)) for beats in (1, 10 ** 40)], [None, None])
        for word in ("come", "hold"):
            self.same([asked((word, deed, 9)) for deed in (2, BIG)], ["deed"] * 2)
            self.same([asked((word, 0, place)) for place in (0, 2, BIG)], ["place"] * 3)
            self.same([asked((word, 1, place)) for place in (0, 1)], ["come", "place"])
        self.same([asked(("come", 0, 1)), asked(("hold", 0, 1)), asked(("hold", 0, 1), ())], [None, "held", None])
        deaf = with_part(SHOP, (0, 1, 0), None)
        self.same(reason_of(deaf, 1, (plan,), asks, ((0, None), (None, 0)), (), 3, ("come", 1, 0)), "place")
        # Changes: the way from place 1 to the writer takes two; its change is the limit less 2.
        self.same([asked(("change", place) + CHANGE[2:]) for place in (2, BIG)], ["place"] * 2)
        for waits in ((), (0,), (0, 2, 0), (0, 1), (1, 0), (0, 0)):
            self.same(asked(with_item(CHANGE, 2, waits)), "waits")
        for stamps in ((), (0,), (0, 0, 0), (1, 0), (0, 1), (9, 9, 9)):
            self.same(asked(with_item(CHANGE, 3, stamps)), "stamps")
        self.same([asked(with_item(CHANGE, 4, limit)) for limit in (-BIG, 6, 7, BIG)], ["limit", "limit", None, None])
        self.same([asked(("change", 0, (0, 2), (0, 0), limit)) for limit in (4, 5)], ["limit", None])
        self.same([asked(CHANGE, now=now) for now in (2, 3)], [None, "limit"])
        self.same([asked(with_item(CHANGE, 4, limit), grain=3) for limit in (14, 15)], ["limit", None])
        self.same(reason_of(deaf, 1, (plan,), asks, ((0, None), (None, 0)), (), 3, CHANGE), "untold")
        self.same(reason_of(deaf, 1, (plan,), asks, ((0, None), (None, 0)), (), 3, with_item(CHANGE, 4, -9)), "untold")
        # Not before its change before: the looker's was at 40.
        two = ((plan[0], plan[1], 40), ((0, 2), (0, 0), None))
        self.same([asked(with_item(CHANGE, 4, limit), some=two) for limit in (39, 40)], ["limit", None])
        four = (two[0], two[1][:2] + (41,), two[1][:2] + (41,), two[1])
        self.same([asked(with_item(CHANGE, 4, limit), some=four) for limit in (40, 41)], ["limit", "many"])
        self.same(asked(with_item(CHANGE, 4, 99), some=four[:3] + (two[1][:2] + (50,), two[1])), "many")
        self.same(asked(with_item(CHANGE, 4, 99), some=four[1:]), None)

    def test_first_of_several(self):
        source = chance(880)
        words = {}
        for k in range(1500):
            house, grain, waits, stamps = some_start(source, k)
            table = table_of(house)
            plan = some_plan(source, table, grain, source.randint(1, 4))
            asks = some_asks(source, house, source.randint(0, 3), 5)
            news = tuple(tuple(0 if p == place_of(house, door) else None if way is None or source.random() < 0.6
                               else source.randint(0, 9) for p, way in enumerate(house[0][place_of(house, door)]))
                         for door, _ in asks)
            pairs = [(d, p) for d in range(len(asks)) for p in range(len(house[0]))]
            held = tuple(pair for pair in pairs if source.random() < 0.4)
            now = source.randint(0, 9)
            slow = SlowHouse(house, grain, waits, stamps)
            slow.asks, slow.news, slow.moment = list(asks), [list(row) for row in news], source.randint(0, 30)
            event = some_live_event(source, slow)
            if source.random() < 0.05:
                event = source.choice(NOT_EVENTS)
            got = reason_of(house, grain, plan, asks, news, held, now, event)
            self.same(got, slow_reason(house, grain, plan, asks, news, held, now, event))
            words[got] = words.get(got, 0) + 1
        self.assertEqual(set(words), {None, "shape", "door", "deed", "place", "come", "held", "waits", "stamps", "untold",
                                      "limit", "many"})

    def test_wrong(self):
        given = [SHOP, 1, (START[2:] + (None,),), ((0, 0), (1, 1)), ((0, None), (3, 0)), ((0, 1),), 3, None]
        self.same(reason_of(*given), "shape")
        for at, word, values in (
                (1, "grain", NOT_NUMBERS + (0,)), (2, "plan", NOT_TUPLES + ((), (START[2:] + (5,),))),
                (3, "asks", NOT_TUPLES + (((1, 1), (0, 0)),)),
                (4, "news", NOT_TUPLES + ((), ((0, None),), ((None, None), (3, 0)), ((0, None), (3, None)), ((0, -1), (3, 0)),
                                          ((1, None), (3, 0)), ((0, True), (3, 0)), [(0, None), (3, 0)], ((0, None), [3, 0]))),
                (5, "held", NOT_TUPLES + (((0, 1), (0, 1)), ((1, 0), (0, 1)), ((2, 0),), ((0, 2),), ((0,),), [(0, 1)], ([0, 1],),
                                          ((True, 1),), ((0, -1),), ((0, None),), (0, 1))),
                (6, "now", NOT_NUMBERS)):
            for value in values:
                self.unusable(word, reason_of, *(given[:at] + [value] + [None] * (7 - at)))
        # Held records may be any of the asks and the house; now need not agree with them.
        for held, now in (((), 0), (((0, 0), (0, 1), (1, 0), (1, 1)), 10 ** 40)):
            self.same(reason_of(*given[:5], held, now, ("ask", 0)), None)


class Live(Case):

    def test_begins(self):
        live = LiveHouse(*START)
        self.assertIsInstance(live, LiveAsks)
        self.same(told_by(live), (0, (((2, 0), (2, 0), None),), (), (), (), [], [], (), (), ()))
        self.same(live.log(), ())

    def test_by_hand(self):
        live = LiveHouse(*START)
        self.same((live.ask(0), live.ask(1)), (0, 1))
        self.same((live.waiting(), live.due_at(0), live.due_at(1), live.shown(1), live.history()),
                  ((0, 1), 2, 0, None, None))
        self.same(live.wait(1), None)
        # The looker is answered as the moment ends; the writer's stamp is 2.
        self.same((live.now(), live.waiting(), live.shown(1), live.spoilt()), (1, (0,), ((),), ()))
        self.same((live.wait(2), live.now(), live.news_now()), (None, 3, ((0, 2), (2, 0))))
        # The looker's deed of 3 has stamp 3: it shows the writer's.
        self.same((live.go(("ask", 1)), live.go(("wait", 1)), live.shown(2)), (2, None, ((0,),)))
        self.same(live.history(), ((0, 0, 2, ()), (1, 0, 0, ((),)), (1, 3, 3, ((0,),))))
        self.same(live.log(), (("ask", 0), ("ask", 1), ("wait", 1), ("wait", 2), ("ask", 1), ("wait", 1)))

    def test_held_and_come(self):
        # Held, the record does not come by itself; the looker lacks it.
        live = LiveHouse(*START)
        live.ask(0)
        self.same((live.hold(0, 1), live.held_now(), live.barred(("hold", 0, 1))), (None, ((0, 1),), "held"))
        live.wait(3)
        live.ask(1)
        self.same((live.news_now()[0], live.held_now()), ((0, None), ((0, 1),)))
        live.wait(1)
        self.same((live.shown(1), live.spoilt(), live.waiting()), (((),), (1,), ()))
        self.same((live.come(0, 1), live.held_now(), live.news_now()[0]), (None, (), (0, 4)))
        self.same((live.shown(1), live.spoilt(), live.barred(("come", 0, 1))), (((),), (1,), "come"))
        # It comes at the moment of the answer, and is known.
        live = LiveHouse(*START)
        live.do_all((("ask", 0), ("hold", 0, 1), ("wait", 3), ("ask", 1), ("come", 0, 1), ("wait", 1)))
        self.same((live.shown(1), live.spoilt()), (((0,),), ()))
        # Held at its latest moment, before that ends.
        live = LiveHouse(*START)
        live.do_all((("ask", 0), ("wait", 2)))
        self.same((live.news_now(), live.barred(("hold", 0, 1))), (((0, None),), None))
        live.hold(0, 1)
        live.wait(99)
        self.same((live.news_now(), live.now()), (((0, None),), 101))
        # Come by itself at its latest moment, which ends.
        live = LiveHouse(*START)
        live.do_all((("ask", 0), ("wait", 3)))
        self.same((live.news_now(), live.barred(("hold", 0, 1))), (((0, 2),), "come"))
        # A way of 0: in the same moment.
        near = with_part(SHOP, (0, 0, 1), 0)
        live = LiveHouse(near, 5, (0, 0), (0, 0))
        live.do_all((("ask", 1), ("ask", 0)))
        self.same((live.news_now()[1], live.waiting()), ((0, None), (0, 1)))
        live.wait(1)
        self.same((live.news_now()[1], live.waiting(), live.history()), ((0, 0), (), ((1, 0, 0, ((1,),)), (0, 0, 0, ()))))

    def test_by_the_own_book(self):
        spoilt = held = changed = 0
        for start, events, slow in some_story(890, 250):
            live = LiveHouse(*start)
            other = SlowHouse(*start)
            for event, reason in events:
                self.same(live.barred(event), reason)
                if reason is None:
                    got = live.go(event)
                    other.go(event)
                    self.same(got, len(other.asks) - 1 if event[0] == "ask" else None)
                else:
                    self.fails(InvalidEvent, (event, reason), live.go, event)
                self.same(told_by(live), other.told())
            self.same(told_by(live), slow.told())
            self.same(live.log(), tuple(event for event, reason in events if reason is None))
            spoilt += live.spoilt() != ()
            held += live.held_now() != ()
            changed += len(live.plan_now()) > 1
        self.assertGreater(min(spoilt, held, changed), 12)

    def test_without_a_hold_none_is_spoilt(self):
        changed = deeds = 0
        for start, events, slow in some_story(891, 200, holds=False):
            live = LiveHouse(*start)
            live.do_all(tuple(event for event, reason in events if reason is None))
            self.same(live.spoilt(), ())
            live.wait(99)
            self.same((live.spoilt(), live.waiting()), ((), ()))
            house, grain = start[:2]
            order = plan_standing(house, grain, live.plan_now(), live.asks_now())
            self.same(keeps_order(house, grain, live.history(), order), True)
            changed += len(live.plan_now()) > 1
            deeds += len(live.asks_now()) > 3
        self.assertGreater(min(changed, deeds), 40)

    def test_when_all_has_come(self):
        # [92]: history and spoilt are plan_run and plan_spoilt.
        spoilt = 0
        for start, events, slow in some_story(892, 150):
            live = replayed(*start, tuple(event for event, reason in events if reason is None))
            live.wait(50)
            for deed, place in live.held_now():
                live.come(deed, place)
            live.wait(50)
            args = start[:2] + (live.plan_now(), live.asks_now(), live.news_now())
            self.same((live.held_now(), live.waiting()), ((), ()))
            self.same((live.history(), live.spoilt()), (plan_run(*args), plan_spoilt(*args)))
            spoilt += live.spoilt() != ()
        self.assertGreater(spoilt, 10)

    def test_beats_at_once(self):
        # As many beats at once are as many times one beat.
        for start, events, _ in some_story(893, 60):
            one, other = LiveHouse(*start), LiveHouse(*start)
            for event, reason in events:
                if reason is None:
                    one.go(event)
                    for part in [("wait", 1)] * event[1] if event[0] == "wait" else [event]:
                        other.go(part)
                self.same(told_by(one), told_by(other))
        live = LiveHouse(SHOP, 10 ** 6, (BIG, 0), (BIG, 0))
        live.do_all((("ask", 0), ("wait", 10 ** 40)))
        self.same((live.now(), live.waiting(), live.due_at(0)), (10 ** 40, (), 10 ** 36))
        live.do_all((("ask", 1), ("ask", 0), ("wait", 10 ** 36)))
        self.same((live.waiting(), live.shown(1)), ((2,), ((0,),)))
        live.wait(1)
        self.same(live.waiting(), ())

    def test_forty_events(self):
        live = LiveHouse(*START)
        for k in range(20):
            live.ask(k % 2)
            live.wait(1)
        self.same((len(live.log()), len(live.asks_now()), live.spoilt()), (40, 20, ()))
        live.undo(40)
        self.same(told_by(live), told_by(LiveHouse(*START)))

    def test_changes(self):
        live = LiveHouse(*START)
        live.ask(0)
        self.fails(InvalidEvent, (with_item(CHANGE, 4, 3), "limit"), live.change, 1, (0, 2), (0, 0), 3)
        self.same((live.change(1, (0, 2), (0, 0), 4), live.plan_now()),
                  (None, (((2, 0), (2, 0), 4), ((0, 2), (0, 0), None))))
        self.same(live.change(place=0, waits=(2, 0), stamps=(2, 0), limit=4), None)
        self.same(live.change(0, (0, 2), (0, 0), 6), None)
        self.same(len(live.plan_now()), 4)
        self.fails(InvalidEvent, (("change", 0, (0, 2), (0, 0), 99), "many"), live.change, 0, (0, 2), (0, 0), 99)
        # The least limit that is just let.
        source = chance(894)
        for k in range(60):
            start = some_start(source, k)
            house, grain = start[:2]
            live = LiveHouse(*start)
            live.wait(source.randint(1, 9))
            waits, stamps = some_kept(source, table_of(house))
            for place in range(len(house[0])):
                ways = [house[0][place][place_of(house, door)] for door in range(len(house[2]))]
                if None in ways:
                    self.same(live.barred(("change", place, waits, stamps, BIG)), "untold")
                    continue
                least = max(grain * stamp + live.now() + grain * way for stamp, way in zip(start[3], ways))
                self.same([live.barred(("change", place, waits, stamps, limit)) for limit in (least - 1, least)],
                          ["limit", None])
                self.assertGreaterEqual(least, next_limit(table_of(house), grain, live.plan_now(), live.now()))

    def test_never_not_usable(self):
        live = LiveHouse(*START)
        live.ask(0)
        before = told_by(live)
        for value in NOT_NUMBERS:
            for call, word, args in ((live.ask, "ask", (value,)), (live.wait, "wait", (value,)), (live.come, "come", (value, 1)),
                                     (live.come, "come", (0, value)), (live.hold, "hold", (value, 0)),
                                     (live.hold, "hold", (0, value)), (live.change, "change", (value,) + CHANGE[2:]),
                                     (live.change, "change", (1, (0, value), (0, 0), 6))):
                self.fails(InvalidEvent, ((word,) + args, "shape"), call, *args)
        for value in NOT_EVENTS:
            with self.assertRaises(InvalidEvent) as held:
                live.go(value)
            self.assertIs(held.exception.event, value)
            self.same((held.exception.reason, live.barred(value)), ("shape", "shape"))
        self.fails(InvalidEvent, (("ask", 2), "door"), live.ask, 2)
        self.fails(InvalidEvent, (("come", 1, 0), "deed"), live.come, 1, 0)
        self.fails(InvalidEvent, (("hold", 0, 0), "place"), live.hold, place=0, deed=0)
        self.fails(InvalidEvent, (("wait", 0), "shape"), live.wait, 0)
        self.same((told_by(live), live.log()), (before, (("ask", 0),)))


class Doing(Case):

    def test_do_all(self):
        fine = (("ask", 0), ("wait", 2), ("ask", 1))
        live = LiveHouse(*START)
        self.same((live.do_all(fine), live.log(), live.do_all(()), live.log()), (None, fine, None, fine))
        before = told_by(live)
        for bad, reason in ((("ask", 9), "door"), (None, "shape"), (("hold", 0, 0), "place"), (["ask", 0], "shape")):
            for keep in (False, 1, 0, None, "True", (True,)):
                with self.assertRaises(InvalidEvent) as held:
                    live.do_all((("wait", 1), ("ask", 0), bad, ("ask", 1)), keep)
                self.assertIs(held.exception.event, bad)
                self.same((held.exception.reason, told_by(live), live.log()), (reason, before, fine))
            self.fails(InvalidEvent, (bad, reason), live.do_all, events=(bad, ("wait", 1)), keep=True)
            self.same((told_by(live), live.log()), (before, fine))
            self.fails(InvalidEvent, (bad, reason), live.do_all, (("wait", 1), ("ask", 0), bad, ("ask", 1)), keep=True)
            self.same(live.log(), fine + (("wait", 1), ("ask", 0)))
            live.undo(2)
            # Where the last one is not let.
            self.fails(InvalidEvent, (bad, reason), live.do_all, (("wait", 1), bad))
            self.same((told_by(live), live.log()), (before, fine))
            self.fails(InvalidEvent, (bad, reason), live.do_all, (("wait", 1), bad), True)
            self.same((live.log(), live.now()), (fine + (("wait", 1),), 3))
            live.undo()
        # What would be let where all was taken back is not let behind the others.
        self.fails(InvalidEvent, (("hold", 0, 1), "held"), live.do_all, (("hold", 0, 1), ("hold", 0, 1)))
        self.same(told_by(live), before)
        for events in NOT_TUPLES + ([("ask", 0)],):
            self.unusable("events", live.do_all, events)
            self.unusable("events", live.do_all, events, True)
            self.unusable("events", live.tried, events)

    def test_tried(self):
        live = LiveHouse(*START)
        live.ask(0)
        before = told_by(live)
        self.same(live.tried(()), (0, (0,)))
        self.same(live.tried((("wait", 2),)), (2, (0,)))
        self.same(live.tried((("wait", 3), ("ask", 1))), (3, (1,)))
        self.same(live.tried((("change", 0, (0, 2), (0, 0), 5), ("wait", 4), ("ask", 0), ("wait", 1))), (5, (1,)))
        # The last one is not let.
        self.fails(InvalidEvent, (("ask", 7), "door"), live.tried, (("wait", 3), ("ask", 1), ("ask", 7)))
        self.fails(InvalidEvent, (("hold", 0, 1), "come"), live.tried, (("wait", 3), ("hold", 0, 1)))
        self.same((told_by(live), live.log()), (before, (("ask", 0),)))
        for start, events, slow in some_story(900, 60):
            live = LiveHouse(*start)
            log = tuple(event for event, reason in events if reason is None)
            self.same(live.tried(log), (slow.moment, slow.told()[7]))
            self.same(live.log(), ())

    def test_undo(self):
        for start, events, _ in some_story(901, 60):
            live = LiveHouse(*start)
            log = tuple(event for event, reason in events if reason is None)
            told = [told_by(live)]
            for event in log:
                live.go(event)
                told.append(told_by(live))
            self.fails(NothingToUndo, (len(log) + 1,), live.undo, len(log) + 1)
            for many in range(len(log), 0, -1):
                other = replayed(*start, log[:many])
                for steps in (1, 2, many):
                    if steps <= many:
                        some = replayed(*start, log[:many])
                        self.same((some.undo(steps), told_by(some), some.log()),
                                  (None, told[many - steps], log[:many - steps]))
                self.same(live == other, True)
                self.same((live.undo(), told_by(live)), (None, told[many - 1]))
            self.fails(NothingToUndo, (1,), live.undo)
            self.fails(NothingToUndo, (BIG,), live.undo, steps=BIG)
            # On it goes as if nothing had been done.
            live.do_all(log)
            self.same(told_by(live), told[-1])
        live = LiveHouse(*START)
        live.ask(0)
        for value in NOT_NUMBERS + (0,):
            self.unusable("steps", live.undo, value)
        self.same(live.log(), (("ask", 0),))

    def test_equal(self):
        log = (("ask", 0), ("wait", 2), CHANGE)
        live = replayed(*START, log)
        self.assertTrue(live == replayed(*START, log) and not live != replayed(*START, log))
        twice = replayed(*START, log + (("ask", 1),))
        self.assertTrue(live != twice and twice != live)
        twice.undo()
        self.assertTrue(live == twice)
        for other in (LiveHouse(*START), replayed(SHOP, 2, (2, 0), (2, 0), ()), LiveHouse(SHOP, 1, (2, 1), (2, 0)),
                      LiveHouse(SHOP, 1, (2, 0), (1, -1)), LiveHouse(with_part(SHOP, (3, 1, 0), 1), *START[1:]), None, 0, log,
                      START, "live"):
            self.assertTrue(live != other and not live == other)
        self.assertTrue(LiveHouse(*START) == LiveHouse(*START))
        # Without events it is the house, the grain, the first waits and the first stamps that tell them apart.
        first = LiveHouse(*START)
        for other in (LiveHouse(SHOP, 2, (2, 0), (2, 0)), LiveHouse(SHOP, 1, (2, 1), (2, 0)), LiveHouse(SHOP, 1, (2, 0), (1, -1)),
                      LiveHouse(with_part(SHOP, (3, 1, 0), 1), *START[1:])):
            self.assertTrue(first != other and not first == other)
            other.ask(0)
            one = replayed(*START, (("ask", 0),))
            self.assertTrue(one != other and not other == one)
        # The same moments by other events are not the same log.
        self.assertFalse(replayed(*START, (("wait", 2),)) == replayed(*START, (("wait", 1), ("wait", 1))))

    def test_twice_and_apart(self):
        # Objects depend on their own events alone; what they return belongs to the caller.
        one, other = LiveHouse(*START), LiveHouse(*START)
        one.do_all((("ask", 0), ("wait", 3)))
        self.same(told_by(other), told_by(LiveHouse(*START)))
        self.same(told_by(one), told_by(one))

    def test_wrong(self):
        for value in NOT_TUPLES + ((), SHOP[:3]):
            self.unusable("house", LiveHouse, value, None, None, None)
        for value in NOT_NUMBERS + (0,):
            self.unusable("grain", LiveHouse, SHOP, value, None, None)
        for value in NOT_TUPLES + ((), (1,), (1, -1), (1, True)):
            self.unusable("waits", LiveHouse, SHOP, 1, value, None)
        for value in NOT_TUPLES + ((), (1,), (1, None), (True, 0), (3, 0), (1, 0), (0, 9)):
            self.unusable("stamps", LiveHouse, SHOP, 1, (2, 0), value)
        # Barred is never raised.
        for stamps in itertools.product(range(-3, 4), repeat=2):
            self.unusable("stamps", LiveHouse, SHOP, 1, (1, 0), stamps)
        live = LiveHouse(*START)
        live.ask(0)
        for value in NOT_NUMBERS + (1, BIG):
            self.unusable("deed", live.due_at, value)
            self.unusable("deed", live.shown, value)


class Replaying(Case):

    def test_replayed(self):
        for start, events, slow in some_story(910, 80):
            log = tuple(event for event, reason in events if reason is None)
            live = replayed(*start, log)
            self.assertIs(live.__class__, LiveHouse)
            self.same((told_by(live), live.log()), (slow.told(), log))
            # [92]: replayed of its log equals the house.
            self.same(replayed(*start, live.log()) == live, True)
            for many in range(len(log) + 1):
                first, others = cut_log(log, many)
                self.same((first, others), (log[:many], log[many:]))
                some = replayed(*start, first)
                some.do_all(others)
                self.same(some == live, True)

    def test_wrong(self):
        self.fails(InvalidEvent, (("ask", 5), "door"), replayed, *START, (("ask", 0), ("ask", 5), ("ask", 6)))
        self.fails(InvalidEvent, (("hold", 0, 0), "place"), replayed, *START, log=(("ask", 0), ("hold", 0, 0)))
        for log in NOT_TUPLES + ([("ask", 0)], ("ask", 0)) + tuple((("ask", 0), event) for event in NOT_EVENTS):
            self.unusable("log", replayed, *START, log)
            self.unusable("log", cut_log, log, None)
        self.unusable("grain", replayed, SHOP, 0, None, None, None)
        self.unusable("waits", replayed, SHOP, 1, (2,), None, None)
        self.unusable("stamps", replayed, SHOP, 1, (2, 0), (9, 0), None)
        for value in NOT_NUMBERS + (2, BIG):
            self.unusable("many", cut_log, (("ask", 0),), value)
        self.same([cut_log((), 0), cut_log((("ask", 0),), 1), cut_log((("ask", 0),), 0)],
                  [((), ()), ((("ask", 0),), ()), ((), (("ask", 0),))])

    def test_not_usable_is_a_house_error(self):
        with self.assertRaises(NotUsable) as held:
            cut_log((), 1)
        self.same((held.exception.word, held.exception.at), ("many", -1))
        self.assertEqual(len(POST[2]), 4)
