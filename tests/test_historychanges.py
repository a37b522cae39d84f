"""Histories changed and told, also as objects: [50], [51], and of [52] what speaks of them."""

import itertools

from bestunmoved.dues import late_deeds
from bestunmoved.errors import InvalidRow, InvalidText, Misshown, NotUsable
from bestunmoved.forced import forced_words
from bestunmoved.historychanges import history_kept, later_history, regrained, renumbered
from bestunmoved.historyclasses import History
from bestunmoved.historykinds import is_history
from bestunmoved.historytexts import history_line, read_history
from bestunmoved.orders import deed_ring, keeps_order, order_of
from bestunmoved.partedhouses import kept_house
from bestunmoved.verdicts import verdict_of
from tests.helpers import (BIG, LONE, NOT_INTEGERS, NOT_NUMBERS, NOT_TUPLES, SHOP, Case, chance, with_item)
from tests.slowdeeds import (CLUB, CLUB_RUN, MET, MISSED, seen_house, slow_fault, slow_orders, some_histories)
from tests.test_histories import wild_history

FAULTY = ((0, 0, 2, ()), (1, 3, 3, ((0, 0, 1),)))
HISTORIES = NOT_TUPLES + (((0, 0, 0),), list(MET), ((1, 0, 0, ()),), ((0, True, 1, ()),))


def lots_of(house):
    """All lots of doors but ()."""
    many = len(house[2])
    return [lot for size in range(1, many + 1) for lot in itertools.combinations(range(many), size)]


class Changes(Case):

    def test_examples(self):
        self.same(history_kept(SHOP, MISSED, (1,)), ((0, 3, 3, ((),)),))
        self.same(renumbered(SHOP, MET, (1, 0)), ((1, 3, 3, ((1,),)), (0, 0, 2, ())))

    def test_kept(self):
        self.same(history_kept(SHOP, (), (0,)), ())
        self.same(history_kept(CLUB, CLUB_RUN, (0, 3)), ((0, 0, 1, ()), (0, 1, 2, ()), (1, 9, 9, ())))
        self.same(history_kept(CLUB, CLUB_RUN, (0, 2)), ((0, 0, 1, ()), (0, 1, 2, ()), (1, 3, 3, ((0,),))))
        # Doors are numbered by the lot, deeds anew, also where they are shown.
        late = ((3, 0, 0, ()), (0, 1, 1, ()), (1, 2, 2, ((1,), (1,))), (2, 3, 3, ((1,),)), (1, 4, 4, ((1,), (1, 2))))
        self.same(history_kept(CLUB, late, (0, 1)),
                  ((0, 1, 1, ()), (1, 2, 2, ((0,), (0,))), (1, 4, 4, ((0,), (0, 1)))))
        self.same(history_kept(CLUB, late, (3,)), ((0, 0, 0, ()),))

    def test_kept_asks_for_what_is_shown(self):
        self.unusable("lot", history_kept, SHOP, MET, (1,))
        self.unusable("lot", history_kept, CLUB, CLUB_RUN, (1, 2))
        # Misshown goes ahead of that, behind what is no lot.
        self.fails(Misshown, (1, 0, "writes"), history_kept, SHOP, FAULTY, (1,))
        self.unusable("lot", history_kept, SHOP, FAULTY, ())
        for lot in NOT_TUPLES + ((), (2,), (1, 0), (0, 0), (True,), (None,), ((0,),), [0]):
            self.unusable("lot", history_kept, SHOP, MET, lot)

    def test_kept_by_definition(self):
        kinds = [0, 0]
        for house, grain, history in some_histories(240, 51, wild=0.4):
            for lot in lots_of(house):
                kept = [d for d in range(len(history)) if history[d][0] in lot]
                if any(d not in kept for e in kept for book in history[e][3] for d in book):
                    self.unusable("lot", history_kept, house, history, lot)
                    kinds[0] += 1
                    continue
                want = tuple((lot.index(history[d][0]),) + history[d][1:3]
                             + (tuple(tuple(kept.index(e) for e in book) for book in history[d][3]),) for d in kept)
                got = history_kept(house, history, lot)
                self.same(got, want)
                self.assertTrue(is_history(kept_house(house, lot), got))
                kinds[1] += 1
                # Orders of the history are, with these deeds alone, orders of the kept one.
                for order in slow_orders(house, grain, history)[:6]:
                    among = tuple(kept.index(d) for d in order if d in kept)
                    self.assertTrue(keeps_order(kept_house(house, lot), grain, got, among))
        self.assertGreater(min(kinds), 50)

    def test_renumbered(self):
        self.same(renumbered(SHOP, (), ()), ())
        history = ((0, 0, 0, ()), (0, 1, 1, ()), (1, 2, 2, ((1, 0), (0, 1))), (2, 3, 3, ((1, 0),)))
        # A "row" keeps its sequence, a "lot" is ascending.
        self.same(renumbered(CLUB, history, (2, 1, 3, 0)),
                  ((1, 2, 2, ((1, 3), (1, 3))), (0, 1, 1, ()), (2, 3, 3, ((1, 3),)), (0, 0, 0, ())))
        self.same(renumbered(CLUB, history, (1, 0, 2, 3))[2], (1, 2, 2, ((0, 1), (0, 1))))
        for house, grain, history in some_histories(80, 52):
            orders = slow_orders(house, grain, history)
            for order in itertools.permutations(range(len(history))):
                got = renumbered(house, history, order)
                # The deed order[i] has the number i.
                for i, deed in enumerate(order):
                    self.same(got[i][:3], history[deed][:3])
                    for book, old, new in zip(house[2][got[i][0]][2], history[deed][3], got[i][3]):
                        named = tuple(order.index(d) for d in old)
                        self.same(new, named if house[1][book] == "row" else tuple(sorted(named)))
                if order in orders:
                    self.same(keeps_order(house, grain, got, tuple(range(len(order)))), True)

    def test_wrong_orders(self):
        for order in NOT_TUPLES + ((), (0,), (0, 0), (0, 1, 2), (0, True), [0, 1], (1, 2), (0, None)):
            self.unusable("order", renumbered, SHOP, MET, order)
        self.fails(Misshown, (1, 0, "writes"), renumbered, SHOP, FAULTY, (0, 1))
        self.unusable("order", renumbered, SHOP, FAULTY, (0,))

    def test_moments(self):
        self.same(regrained(SHOP, MET, 3), ((0, 0, 6, ()), (1, 9, 9, ((0,),))))
        self.same(later_history(SHOP, MET, 3), ((0, 3, 5, ()), (1, 6, 6, ((0,),))))
        self.same((regrained(SHOP, (), 3), later_history(SHOP, (), 3)), ((), ()))
        self.same((regrained(SHOP, MET, 1), later_history(SHOP, MET, 0)), (MET, MET))
        self.same(regrained(LONE, ((0, 10 ** 40, 10 ** 40, ()),), 10 ** 6), ((0, 10 ** 46, 10 ** 46, ()),))
        self.same(later_history(LONE, ((0, 1, 2, ()),), 10 ** 40), ((0, 10 ** 40 + 1, 10 ** 40 + 2, ()),))
        for value in NOT_INTEGERS + (0, -1):
            self.unusable("scale", regrained, SHOP, MET, value)
        for value in NOT_NUMBERS:
            self.unusable("beats", later_history, SHOP, MET, value)
        for call, more in ((history_kept, (0,)), (renumbered, (0, 1)), (regrained, 1), (later_history, 0)):
            self.fails(Misshown, (1, 0, "writes"), call, SHOP, FAULTY, more)
            for history in HISTORIES:
                self.unusable("history", call, SHOP, history, None)

    def test_moments_leave_what_is_forced(self):
        for house, grain, history in some_histories(80, 53):
            scaled = regrained(house, history, 3)
            later = later_history(house, history, 7)
            for one, other in itertools.permutations(range(len(history)), 2):
                words = forced_words(house, grain, history, one, other)
                self.same(forced_words(house, grain * 3, scaled, one, other), words)
                self.same(forced_words(house, grain, later, one, other), words)


class Lines(Case):

    def refused(self, line, field, house, text):
        self.fails(InvalidText, (line, field), read_history, house, text)

    def test_examples(self):
        self.same(history_line(SHOP, MET), "0 0 2; 1 3 3 0")
        self.refused(1, 3, SHOP, "0 0 2; 1 3 3")

    def test_lines(self):
        self.same((history_line(SHOP, ()), read_history(SHOP, "-")), ("-", ()))
        self.same((history_line(SHOP, MISSED), read_history(SHOP, "0 0 2; 1 3 3 -")), ("0 0 2; 1 3 3 -", MISSED))
        line = "0 0 1; 0 1 2; 1 2 5 0,1 0,1; 2 3 3 0; 1 3 6 0,1 0,1,2; 3 9 9"
        self.same((history_line(CLUB, CLUB_RUN), read_history(CLUB, line)), (line, CLUB_RUN))
        self.same(read_history(CLUB, "1 0 0 - -"), ((1, 0, 0, ((), ())),))
        # What is read may have faults.
        self.same(read_history(SHOP, "1 0 0 7,7,0"), ((1, 0, 0, ((7, 7, 0),)),))
        self.fails(Misshown, (0, 0, "none"), history_line, SHOP, ((1, 0, 0, ((7, 7, 0),)),))
        huge = ((0, 10 ** 40, 10 ** 40 + 1, ()),)
        self.same(history_line(LONE, huge), "0 1" + "0" * 40 + " 1" + "0" * 39 + "1")
        self.same(read_history(LONE, history_line(LONE, huge)), huge)
        long = ((0, 0, 10 ** 700, ()),)
        self.same(read_history(LONE, history_line(LONE, long)), long)
        forty = tuple((0, k, k, ()) for k in range(40))
        self.same(read_history(SHOP, history_line(SHOP, forty)), forty)

    def test_lines_come_back(self):
        source = chance(54)
        for house, grain, history in some_histories(100, 55):
            line = history_line(house, history)
            self.same(read_history(house, line), history)
            self.assertEqual(line.count("; "), max(0, len(history) - 1))
        for _ in range(60):
            house = seen_house(source)
            history = wild_history(source, house, 3)
            if slow_fault(house, history) is None:
                self.same(read_history(house, history_line(house, history)), history)

    def test_fields(self):
        for field in ("", "x", "-1", "+1", "00", "01", "1.", "1,", ",1", "1,2", "0x1", "-0", "1_0", "--", "-"):
            self.refused(0, 0, SHOP, field + " 0 2")
            self.refused(1, 1, SHOP, "0 0 2; 0 %s 2" % field)
            self.refused(1, 2, SHOP, "0 0 2; 0 0 " + field)
        for field in ("1;", ";"):
            self.refused(0, 2, SHOP, "0 0 " + field)
        for field in ("", "x", "-1", "00", "01", "0,01", "1,", ",1", ",", "0,,1", "-,0", "0,-", "1;", "0,-1", "--"):
            self.refused(1, 3, SHOP, "0 0 2; 1 3 3 " + field)
            self.refused(0, 4, CLUB, "1 3 3 - %s; x" % field)
        for door in ("2", "9", "1" + "0" * 50):
            self.refused(0, 0, SHOP, door + " 0 0 0 0")

    def test_too_few_and_too_many(self):
        self.refused(0, 0, SHOP, "")
        self.refused(0, 1, SHOP, "0")
        self.refused(0, 2, SHOP, "0 0")
        self.refused(0, 2, SHOP, "0 0 ")
        self.refused(0, 3, SHOP, "0 0 2 ")
        self.refused(0, 3, SHOP, "0 0 2 0")
        self.refused(0, 3, SHOP, "1 0 2")
        self.refused(0, 4, SHOP, "1 0 2 - -")
        self.refused(0, 4, CLUB, "1 0 2 -")
        self.refused(0, 5, CLUB, "1 0 2 - - -")
        self.refused(1, 0, SHOP, "0 0 2; ")
        self.refused(1, 0, SHOP, "0 0 2;  0 0 2")
        self.refused(0, 2, SHOP, "0 0 2;0 0 2")
        self.refused(0, 0, SHOP, "; 0 0 2")
        self.refused(0, 0, SHOP, "-; 0 0 2")
        self.refused(1, 0, SHOP, "0 0 2; -")
        self.refused(0, 0, SHOP, "- ")
        # The first that cannot stand there goes ahead of how many there are.
        self.refused(0, 1, SHOP, "0 x 2 3 4")
        self.refused(0, 1, SHOP, "1 x")

    def test_rows(self):
        self.fails(InvalidRow, (0,), read_history, SHOP, "0 3 2")
        self.fails(InvalidRow, (1,), read_history, SHOP, "0 0 2; 1 3 2 -")
        for field in ("1,0", "0,0", "0,2,1", "0,1,1"):
            self.fails(InvalidRow, (1,), read_history, CLUB, "0 0 0; 1 0 0 %s %s" % (field, field))
            self.same(len(read_history(CLUB, "0 0 0; 1 0 0 %s -" % field)), 2)
        # All of one piece before the next one, in each piece the fields first.
        self.fails(InvalidRow, (0,), read_history, SHOP, "0 3 2; x")
        self.refused(0, 3, SHOP, "0 3 2 0; x")
        self.refused(0, 0, SHOP, "x; 0 3 2")
        self.refused(0, 4, CLUB, "1 3 2 1,0 x")

    def test_wrong(self):
        for text in NOT_TUPLES + ((), ("-",), b"-"):
            if not isinstance(text, str):
                self.unusable("text", read_history, SHOP, text)
        for history in HISTORIES:
            self.unusable("history", history_line, SHOP, history)


class Objects(Case):

    def test_example(self):
        self.same(History(SHOP, 2, MET).kept((0,)).told()[2], ((0, 0, 2, ()),))

    def test_by_the_functions(self):
        for house, grain, history in some_histories(80, 56, wild=0.15):
            made = History(house, grain, history)
            self.same(len(made), len(history))
            self.same(made.told(), (house, grain, history))
            self.same(made.order(), order_of(house, grain, history))
            self.same(made.ring() is None, deed_ring(house, grain, history) is None)
            self.same(made.verdict()[0], verdict_of(house, grain, history)[0])
            waits = (1,) * len(house[2])
            self.same(made.late(waits), late_deeds(house, grain, waits, history))
            for lot in lots_of(house):
                try:
                    want = (kept_house(house, lot), grain, history_kept(house, history, lot))
                except NotUsable:
                    self.unusable("lot", made.kept, lot)
                else:
                    kept = made.kept(lot)
                    self.assertIs(kept.__class__, History)
                    self.same(kept.told(), want)
            self.same(made.told(), (house, grain, history))

    def test_equality(self):
        made = History(SHOP, 2, MET)
        self.assertTrue(made == History(SHOP, 2, MET))
        self.assertFalse(made != History(SHOP, 2, MET))
        for other in (History(SHOP, 1, MET), History(SHOP, 2, MISSED), History(CLUB, 2, ()), (SHOP, 2, MET), None, 2, "",
                      History(with_item(SHOP, 3, ((0, 1), (0, 0))), 2, MET), MET):
            self.assertFalse(made == other)
            self.assertTrue(made != other)
        self.assertFalse(History(SHOP, 1, ()) == True)
        self.assertEqual(len(History(SHOP, 1, ())), 0)

    def test_wrong(self):
        for house in NOT_TUPLES + ((), SHOP[:3], list(SHOP), with_item(SHOP, 0, ((0, None), (2, 0)))):
            self.unusable("house", History, house, None, None)
        for grain in NOT_INTEGERS + (0, -1):
            self.unusable("grain", History, SHOP, grain, None)
        for history in HISTORIES:
            self.unusable("history", History, SHOP, 1, history)
        self.fails(Misshown, (1, 0, "writes"), History, SHOP, 1, FAULTY)
        made = History(SHOP, 1, MET)
        for value in NOT_NUMBERS:
            self.unusable("waits", made.late, (1, value))
        for lot in ((), (1,), (2,), [0], None):
            self.unusable("lot", made.kept, lot)
        self.same(BIG in (made.late((BIG, 0))), False)
