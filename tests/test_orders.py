"""Orders, rings of deeds, verdicts and what is due: [47] to [50], and of (G1) and [52] what speaks of them."""

import itertools

from bestunmoved.dues import due_history, late_deeds
from bestunmoved.errors import InvalidPaper, Misshown
from bestunmoved.forced import forced_pairs, forced_words
from bestunmoved.historykinds import first_fault
from bestunmoved.orders import deed_ring, keeps_order, order_of
from bestunmoved.verdictchecker import lets_verdict
from bestunmoved.verdicts import verdict_of
from tests.helpers import (BIG, LONE, NOT_INTEGERS, NOT_NUMBERS, NOT_TUPLES, SHOP, Case, chance, with_item)
from tests.slowdeeds import (CLUB, CLUB_RUN, MET, MISSED, seen_house, slow_fault, slow_orders, slow_pairs, slow_shown,
                             some_deeds, some_histories)

FAULTY = ((0, 0, 2, ()), (1, 3, 3, ((0, 0, 1),)))
TWO = ((0, 0, 3, ()), (0, 2, 3, ()), (1, 5, 5, ((1, 0),)))
# Of these, 1 and 2 are forced ahead of each other, and 0 stands ahead of both.
LEFT = ((0, 0, 1, ()), (0, 2, 3, ()), (1, 4, 4, ((0,),)))


def is_deed_ring(house, grain, history, ring):
    """Whether ring is a ring of deeds by the definition."""
    pairs = slow_pairs(house, grain, history)
    return (ring.__class__ is tuple and len(ring) > 1 and len(set(ring)) == len(ring)
            and all(step in pairs for step in zip(ring, ring[1:] + ring[:1])))


class Orders(Case):

    def test_examples(self):
        self.same(order_of(SHOP, 1, TWO), (1, 0, 2))
        self.same(sorted(deed_ring(SHOP, 2, MISSED)), [0, 1])
        self.same((order_of(SHOP, 2, MET), deed_ring(SHOP, 2, MET)), ((0, 1), None))
        self.same(order_of(SHOP, 2, MISSED), None)

    def test_edges(self):
        self.same((order_of(SHOP, 1, ()), deed_ring(SHOP, 1, ()), keeps_order(SHOP, 1, (), ())), ((), None, True))
        lone = ((0, 4, 5, ()),)
        self.same((order_of(LONE, 1, lone), deed_ring(LONE, 1, lone), keeps_order(LONE, 1, lone, (0,))), ((0,), None, True))
        # The looker may stand ahead or behind if it is asked at the very moment; a beat later not ahead.
        for asked, order in ((2, (1, 0)), (3, None)):
            self.same(order_of(SHOP, 1, ((0, 0, 2, ()), (1, asked, asked, ((),)))), order)
        self.same(sorted(deed_ring(SHOP, 1, LEFT)), [1, 2])
        self.same(order_of(CLUB, 1, CLUB_RUN), (0, 3, 1, 2, 4, 5))

    def test_by_definition(self):
        kinds = {"none": 0, "one": 0, "several": 0}
        for house, grain, history in some_histories(250, 47, wild=0.12):
            orders = slow_orders(house, grain, history)
            self.same(order_of(house, grain, history), orders[0] if orders else None)
            ring = deed_ring(house, grain, history)
            self.same(ring is None, orders != [])
            if ring is not None:
                self.assertTrue(is_deed_ring(house, grain, history, ring))
            kinds["none" if not orders else "one" if len(orders) == 1 else "several"] += 1
            for order in itertools.permutations(range(len(history))):
                self.same(keeps_order(house, grain, history, order), order in orders)
        self.assertGreater(min(kinds.values()), 20)

    def test_five_deeds(self):
        for house, grain, history in some_histories(60, 471, most=5, wild=0.1):
            orders = slow_orders(house, grain, history)
            self.same(order_of(house, grain, history), orders[0] if orders else None)

    def test_no_order_of_any_value(self):
        for thing in NOT_TUPLES + ((), (0,), (1, 0), (0, 0), (0, 1, 2), (False, True), (0, True), [0, 1], ("0", "1"),
                                   (0, None), ((0,), (1,)), (-2, -1)):
            self.same(keeps_order(SHOP, 2, MET, thing), False)
        self.same(keeps_order(SHOP, 2, MET, (0, 1)), True)

    def test_forty_deeds(self):
        # A writer and a looker by turns, told from the last one to the first.
        many = 20
        history = []
        for k in range(many):
            history.append((0, 10 * k, 10 * k + 2, ()))
            history.append((1, 10 * k + 5, 10 * k + 5, (tuple(range(0, 2 * k + 1, 2)),)))
        self.same(order_of(SHOP, 2, tuple(history)), tuple(range(2 * many)))
        turned = tuple(deed[:3] + (tuple(tuple(39 - n for n in book) for book in deed[3]),) for deed in history[::-1])
        self.same(order_of(SHOP, 2, turned), tuple(range(39, -1, -1)))
        # If the last looker lacks the first writer, all are left but what is free of them.
        broken = history[:-1] + [history[-1][:3] + ((history[-1][3][0][1:],),)]
        ring = deed_ring(SHOP, 2, tuple(broken))
        self.assertTrue(is_deed_ring(SHOP, 2, tuple(broken), ring))

    def test_large_rings(self):
        # Each looker lacks one writer, and the next looker shows it: no ring is short.
        books = tuple("lot" for _ in range(4))
        doors = tuple((0, (k,), ((k + 1) % 4,)) for k in range(4))
        house = (((0,),), books, doors, tuple(tuple(0 if x == y else None for y in range(4)) for x in range(4)))
        history = tuple((k, 0, 0, ((),)) for k in range(4))
        self.same(sorted(deed_ring(house, 1, history)), [0, 1, 2, 3])
        self.assertTrue(is_deed_ring(house, 1, history, deed_ring(house, 1, history)))

    def test_wrong(self):
        for call, more in ((order_of, ()), (deed_ring, ()), (keeps_order, ((0, 1),)), (verdict_of, ()),
                           (lets_verdict, (None,))):
            for value in NOT_INTEGERS + (0, -1):
                self.unusable("grain", call, SHOP, value, None, *more)
            for value in NOT_TUPLES + (((0, 0, 0),), list(MET), ((1, 0, 0, ()),), ((0, True, 1, ()),)):
                self.unusable("history", call, SHOP, 1, value, *more)
        for call, more in ((order_of, ()), (deed_ring, ()), (keeps_order, (None,))):
            self.fails(Misshown, (1, 0, "writes"), call, SHOP, 2, FAULTY, *more)


class Verdicts(Case):

    def test_examples(self):
        self.same(verdict_of(SHOP, 2, ((1, 0, 0, ((1,),)),)), ("fault", 0, 0, "none"))
        self.same(verdict_of(SHOP, 2, MET), ("order", (0, 1)))
        self.same(lets_verdict(SHOP, 2, MISSED, ("ring", (0, 1))), "ring")
        self.fails(InvalidPaper, ("ahead", 1), lets_verdict, SHOP, 2, MET, ("order", (1, 0)))

    def test_by_definition(self):
        found = {"fault": 0, "order": 0, "ring": 0}
        source = chance(48)
        for house, grain, history in some_histories(350, 481, wild=0.3):
            if history and source.random() < 0.3:
                at = source.randrange(len(history))
                shown = tuple((len(history),) for _ in history[at][3])
                history = with_item(history, at, history[at][:3] + (shown,))
            verdict = verdict_of(house, grain, history)
            fault = slow_fault(house, history)
            if fault is not None:
                self.same(verdict, ("fault",) + fault)
            else:
                orders = slow_orders(house, grain, history)
                self.assertEqual([len(verdict), verdict.__class__, verdict[1].__class__], [2, tuple, tuple])
                if orders:
                    self.assertEqual(verdict[0], "order")
                    self.assertIn(verdict[1], orders)
                else:
                    self.assertEqual(verdict[0], "ring")
                    self.assertTrue(is_deed_ring(house, grain, history, verdict[1]))
            self.same(lets_verdict(house, grain, history, verdict), verdict[0])
            found[verdict[0]] += 1
            self.never_both(house, grain, history)
        self.assertGreater(min(found.values()), 20)

    def never_both(self, house, grain, history):
        """All orders and rings of up to three deeds are refused, but for those that are such."""
        if len(history) > 3:
            return
        fault = slow_fault(house, history)
        orders = [] if fault else slow_orders(house, grain, history)
        for many in range(len(history) + 1):
            for deeds in itertools.permutations(range(len(history)), many):
                for word, fine in (("order", deeds in orders),
                                   ("ring", not fault and is_deed_ring(house, grain, history, deeds))):
                    if fine:
                        self.same(lets_verdict(house, grain, history, (word, deeds)), word)
                    else:
                        with self.assertRaises(InvalidPaper):
                            lets_verdict(house, grain, history, (word, deeds))

    def test_edges(self):
        self.same(verdict_of(SHOP, 1, ()), ("order", ()))
        self.same(lets_verdict(SHOP, 1, (), ("order", ())), "order")
        self.fails(InvalidPaper, ("ring", -1), lets_verdict, SHOP, 1, (), ("ring", ()))


class Checker(Case):

    def refused(self, word, at, history, thing, house=SHOP, grain=2):
        self.fails(InvalidPaper, (word, at), lets_verdict, house, grain, history, thing)

    def test_shape(self):
        for thing in NOT_TUPLES + ((), ("order",), ("order", None), ("order", [0, 1]), ("order", (0, 2)), ("ring", (-1,)),
                                   ("order", (False, True)), ("order", (0, "1")), ("order", "01"), ("ORDER", (0, 1)),
                                   ("order", (0, 1), 0), ("fault", (0, 1)), ("fault", 0, 0), ("fault", 0, 0, "none", 0),
                                   ("order", 0, 0, "none"), ["order", (0, 1)], (None, (0, 1)), ((0, 1), "order"),
                                   ("ring", 0), ("ring", ((0,), (1,))), (0, 0, 0, 0), ["fault", 0, 0, "none"]):
            self.refused("shape", -1, MET, thing)
            # The shape is asked ahead of faults.
            self.refused("shape", -1, FAULTY, thing)

    def test_fault(self):
        fine = ("fault", 1, 0, "writes")
        self.same(lets_verdict(SHOP, 2, FAULTY, fine), "fault")
        for thing in (("fault", 0, 0, "writes"), ("fault", 1, 1, "writes"), ("fault", 1, 0, "twice"),
                      ("fault", True, 0, "writes"), ("fault", 1, False, "writes"), ("fault", 1, 0, None),
                      ("fault", None, None, None), ("fault", (1,), 0, "writes"), ("order", (0, 1)), ("order", (1, 0)),
                      ("order", ()), ("ring", (0, 1)), ("ring", ())):
            self.refused("fault", -1, FAULTY, thing)
        for history in (MET, MISSED, ()):
            for thing in (fine, ("fault", 0, 0, "none"), ("fault", None, None, None)):
                self.refused("fault", -1, history, thing)

    def test_order(self):
        for order in ((), (0,), (1,), (0, 0), (1, 1), (0, 1, 0)):
            self.refused("order", -1, MET, ("order", order))
        self.same(lets_verdict(SHOP, 2, MET, ("order", (0, 1))), "order")
        self.refused("ahead", 1, MET, ("order", (1, 0)))
        # The first place that is not ahead of none before it.
        self.same(lets_verdict(SHOP, 1, TWO, ("order", (1, 0, 2))), "order")
        self.refused("ahead", 1, TWO, ("order", (0, 1, 2)))
        self.refused("ahead", 2, TWO, ("order", (1, 2, 0)))
        self.refused("ahead", 1, TWO, ("order", (2, 1, 0)))
        self.refused("ahead", 1, MISSED, ("order", (0, 1)))

    def test_ring(self):
        for ring in ((), (0,), (1,), (0, 0), (0, 1, 0)):
            self.refused("ring", -1, MISSED, ("ring", ring))
        for ring in ((0, 1), (1, 0)):
            self.same(lets_verdict(SHOP, 2, MISSED, ("ring", ring)), "ring")
        self.refused("forced", 1, MET, ("ring", (0, 1)))
        self.refused("forced", 0, MET, ("ring", (1, 0)))
        self.refused("forced", 2, LEFT, ("ring", (0, 2, 1)), grain=1)
        self.refused("forced", 1, LEFT, ("ring", (1, 2, 0)), grain=1)
        self.refused("forced", 0, LEFT, ("ring", (2, 0, 1)), grain=1)


class Dues(Case):

    def test_example(self):
        deeds = ((0, 0, 2), (1, 3, 3))
        self.same(due_history(SHOP, deeds, (1, 0)), MISSED)
        self.same(due_history(SHOP, deeds, (0, 1)), MET)
        self.same(late_deeds(SHOP, 2, (0, 0), MET), (0,))

    def test_edges(self):
        self.same(due_history(SHOP, (), ()), ())
        self.same(due_history(LONE, ((0, 3, 4),), (0,)), ((0, 3, 4, ()),))
        # A row in the sequence of the order, a lot ascending; a door that looks at what it writes itself.
        deeds = ((0, 0, 0), (1, 1, 1), (0, 2, 2), (1, 3, 3), (2, 4, 4))
        self.same(due_history(CLUB, deeds, (2, 1, 0, 3, 4)),
                  ((0, 0, 0, ()), (1, 1, 1, ((2,), (2,))), (0, 2, 2, ()), (1, 3, 3, ((2, 0), (0, 1, 2))),
                   (2, 4, 4, ((2, 0),))))

    def test_by_definition(self):
        source = chance(50)
        for k in range(150):
            house = seen_house(source)
            deeds = some_deeds(source, house, k % 6)
            order = source.sample(range(len(deeds)), len(deeds))
            history = due_history(house, deeds, tuple(order))
            want = tuple(deed + (slow_shown(house, deeds, deed[0], tuple(order[:order.index(at)])),)
                         for at, deed in enumerate(deeds))
            self.same(history, want)

    def test_consequences(self):
        source = chance(501)
        for k in range(150):
            house = seen_house(source)
            deeds = some_deeds(source, house, k % 5)
            order = tuple(source.sample(range(len(deeds)), len(deeds)))
            history = due_history(house, deeds, order)
            self.same(first_fault(house, history), None)
            grain = source.randint(1, 3)
            late = [(one, other) for at, one in enumerate(order) for other in order[:at]
                    if "duty" in forced_words(house, grain, history, one, other)]
            self.same(keeps_order(house, grain, history, order), late == [])
        for house, grain, history in some_histories(150, 502):
            for order in slow_orders(house, grain, history):
                self.same(due_history(house, tuple(deed[:3] for deed in history), order), history)

    def test_wrong_deeds_and_orders(self):
        deeds = ((0, 0, 2), (1, 3, 3))
        for value in NOT_TUPLES + (MET, ((0, 0),), list(deeds), ((2, 0, 0),), ((0, 1, 0),), ((0, True, 1),), ([0, 0, 0],)):
            self.unusable("deeds", due_history, SHOP, value, None)
        for value in NOT_TUPLES + ((), (0,), (0, 0), (0, 1, 2), (0, True), [0, 1], (0, None), (1, 2)):
            self.unusable("order", due_history, SHOP, deeds, value)

    def test_late(self):
        history = tuple((0, 5, 5 + late, ()) for late in range(6))
        self.same(late_deeds(SHOP, 2, (1, 0), history), (3, 4, 5))
        self.same(late_deeds(SHOP, 2, (3, 0), history), ())
        self.same(late_deeds(SHOP, 1, (0, 9), history), (1, 2, 3, 4, 5))
        self.same(late_deeds(SHOP, 1, (0, 9), ()), ())
        last = 10 ** 40 + 10 ** 6 * BIG
        self.same([late_deeds(LONE, 10 ** 6, (BIG,), ((0, 10 ** 40, last + k, ()),)) for k in (0, 1)], [(), (0,)])
        for house, grain, history in some_histories(60, 503):
            waits = tuple(x % 3 for x in range(len(house[2])))
            want = tuple(d for d, (door, asked, answered, _) in enumerate(history) if answered - asked > grain * waits[door])
            self.same(late_deeds(house, grain, waits, history), want)

    def test_wrong_late(self):
        for value in NOT_INTEGERS + (0, -1):
            self.unusable("grain", late_deeds, SHOP, value, None, None)
        for value in NOT_NUMBERS:
            self.unusable("waits", late_deeds, SHOP, 2, (0, value), None)
        for value in NOT_TUPLES + ((), (0,), (0, 0, 0), [0, 0]):
            self.unusable("waits", late_deeds, SHOP, 2, value, None)
        for value in NOT_TUPLES + (((0, 0, 0),), list(MET), ((1, 0, 0, ()),)):
            self.unusable("history", late_deeds, SHOP, 2, (0, 0), value)
        self.fails(Misshown, (1, 0, "writes"), late_deeds, SHOP, 2, (0, 0), FAULTY)


class Consequences(Case):

    def test_pairs_are_what_orders_keep(self):
        for house, grain, history in some_histories(120, 52):
            pairs = forced_pairs(house, grain, history)
            for order in itertools.permutations(range(len(history))):
                fine = all(order.index(one) < order.index(other) for one, other in pairs)
                self.same(keeps_order(house, grain, history, order), fine)
