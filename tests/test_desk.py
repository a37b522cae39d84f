"""Events and logs as lines, and the desk: [91], [92]."""

from bestunmoved.desk import desk_line
from bestunmoved.errors import InvalidEvent, InvalidRow, InvalidText
from bestunmoved.eventtexts import event_line, log_text, read_event, read_log
from bestunmoved.live import LiveHouse
from bestunmoved.replaying import replayed
from tests.helpers import BIG, NOT_TUPLES, SHOP, Case, chance, with_part
from tests.slowdeeds import CLUB
from tests.slowlive import SlowHouse, some_live_event, some_start, told_by
from tests.test_live import EVENTS, NOT_EVENTS, START, some_story

LINES = [(("ask", 0), "ask 0"), (("wait", 3), "wait 3"), (("come", 2, 1), "come 2 1"), (("hold", 2, 1), "hold 2 1"),
         (("change", 0, (2, 1), (0, -1), 12), "change 0 waits 2 1 stamps 0 -1 limit 12"),
         (("change", 7, (), (), -1), "change 7 waits stamps limit -1"),
         (("change", 0, (0,), (), 0), "change 0 waits 0 stamps limit 0"),
         (("change", 0, (), (-BIG,), BIG), "change 0 waits stamps -%d limit %d" % (BIG, BIG)),
         (("wait", 10 ** 40), "wait 1" + "0" * 40)]

# A line of an event that does not read well, and the first field that cannot stand there.
WRONG = [
    ("", 0), (" ", 0), ("-", 0), ("asks 0", 0), ("Ask 0", 0), ("ask", 1), ("ask ", 1), ("ask  0", 1), ("ask 0 ", 2), ("ask 0 0", 2),
    (" ask 0", 0), ("ask -1", 1), ("ask 01", 1), ("ask 00", 1), ("ask +1", 1), ("ask x", 1), ("ask -", 1), ("ask 1.0", 1),
    ("wait", 1), ("wait -1", 1), ("wait -0", 1), ("wait 1 1", 2), ("wait x 1", 1), ("wait 0 1", 2), ("wait 00", 1),
    ("come", 1), ("come 1", 2), ("come 1 ", 2), ("come x", 1), ("come x y", 1), ("come 1 y", 2), ("come 1 2 3", 3), ("come -1 0", 1),
    ("come 0 -1", 2), ("hold", 1), ("hold 1", 2), ("hold 1 02", 2), ("hold 1 2 ", 3), ("come 1 x 3", 2),
    ("change", 1), ("change x", 1), ("change -1", 1), ("change 0", 2), ("change 0 1", 2), ("change 0 stamps", 2),
    ("change waits", 1), ("change 0 waits", 3), ("change 0 waits 1", 4), ("change 0 waits -1", 3), ("change 0 waits -1 x", 3),
    ("change 0 waits 1 x -1", 4), ("change 0 waits 01 stamps", 3), ("change 0 waits limit", 3), ("change 0 waits 1 limit 5", 4),
    ("change 0 waits stamps", 4), ("change 0 waits stamps 1", 5), ("change 0 waits stamps -0", 4), ("change 0 waits stamps -", 4),
    ("change 0 waits stamps +1", 4), ("change 0 waits stamps 1 waits", 5), ("change 0 waits stamps -01 limit 5", 4),
    ("change 0 waits stamps limit", 5), ("change 0 waits stamps limit -", 5), ("change 0 waits stamps limit x", 5),
    ("change 0 waits stamps limit 5 6", 6), ("change 0 waits stamps limit 5 ", 6), ("change 0 waits stamps limit x 6", 5),
    ("change 0 waits  stamps limit 5", 3), ("change 0  waits stamps limit 5", 2), ("change 0 waits 1 stamps 1 stamps", 6),
    ("change 0 waits 1 2 3", 6), ("now", 0), ("waits", 0), ("plan", 0), ("change 0 waits\n1", 2), ("ask 0\n", 1), ("ask\n0", 0)]


class Texts(Case):

    def test_lines(self):
        for event, line in LINES:
            self.same((event_line(event), read_event(line)), (line, event))
        log, text = tuple(event for event, _ in LINES), "\n".join(line for _, line in LINES)
        self.same((log_text(log), read_log(text)), (text, log))
        self.same((log_text(()), read_log("")), ("", ()))
        self.same(read_log("ask 0"), (("ask", 0),))

    def test_each_event(self):
        source = chance(920)
        for k in range(60):
            slow = SlowHouse(*some_start(source, k))
            log = tuple(some_live_event(source, slow) for _ in range(source.randint(0, 12))) + tuple(EVENTS)
            for event in log:
                line = event_line(event)
                self.same(read_event(line), event)
                # Told by its own fields.
                words = [str(part) for part in event] if event[0] != "change" else (
                    ["change", str(event[1]), "waits"] + [str(one) for one in event[2]] + ["stamps"]
                    + [str(one) for one in event[3]] + ["limit", str(event[4])])
                self.same(line, " ".join(words))
                if event[0] == "change":
                    self.same(event_line(read_event(line)), line)
            self.same(read_log(log_text(log)), log)

    def test_wrong_lines(self):
        for line, field in WRONG:
            self.fails(InvalidText, (0, field), read_event, line)
            if "\n" not in line:
                for ahead in (1, 3):
                    text = "\n".join(["ask 0"] * ahead + [line, "x"])
                    self.fails(InvalidText, (ahead, field), read_log, text)
                if line:
                    self.fails(InvalidText, (0, field), read_log, line)
        for text, line, field in (("\n", 0, 0), ("ask 0\n", 1, 0), ("\nask 0", 0, 0), ("ask 0\n\nask 0", 1, 0),
                                  ("ask 0\nwait\nask x", 1, 1), ("ask 0 \nwait 0", 0, 2), ("ask 0;wait 1", 0, 1)):
            self.fails(InvalidText, (line, field), read_log, text)

    def test_wait_nothing(self):
        self.fails(InvalidRow, (0,), read_event, "wait 0")
        self.fails(InvalidRow, (0,), read_log, "wait 0\nx")
        self.fails(InvalidRow, (2,), read_log, "ask 0\nwait 1\nwait 0\nwait")
        self.fails(InvalidText, (0, 2), read_event, "wait 0 ")
        # All of one line comes before the next one.
        self.fails(InvalidRow, (0,), read_log, "wait 0\nask")
        self.fails(InvalidText, (0, 1), read_log, "ask\nwait 0")

    def test_wrong(self):
        for value in NOT_TUPLES:
            if not isinstance(value, str):
                self.unusable("text", read_event, value)
                self.unusable("text", read_log, value)
        for value in NOT_EVENTS:
            self.unusable("event", event_line, value)
            self.unusable("log", log_text, (("ask", 0), value))
        for value in NOT_TUPLES + ([("ask", 0)], ("ask", 0)):
            self.unusable("log", log_text, value)


class Desk(Case):

    def test_by_hand(self):
        live = LiveHouse(*START)
        for line, told in [
                ("now", "0"), ("waiting", "-"), ("spoilt", "-"), ("plan", "waits 2 0 stamps 2 0 limit -"), ("ask 0", "deed 0"),
                ("ask 1", "deed 1"), ("waiting", "0 1"), ("due 0", "2"), ("due 1", "0"), ("shown 0", "waits"), ("shown 1", "waits"),
                ("hold 0 1", "done"), ("wait 12", "done"), ("now", "12"), ("shown 0", "-"), ("shown 1", "-"), ("waiting", "-"),
                ("ask 1", "deed 2"), ("due 2", "12"), ("wait 1", "done"), ("shown 2", "-"), ("spoilt", "2"), ("come 0 1", "done"),
                ("ask 1", "deed 3"), ("wait 1", "done"), ("shown 3", "0"), ("ask 0", "deed 4"), ("ask 0", "deed 5"),
                ("wait 3", "done"), ("ask 1", "deed 6"), ("wait 1", "done"), ("shown 6", "0,4,5"), ("spoilt", "2"), ("ask 1", "deed 7"),
                ("hold 4 1", None), ("change 0 waits 0 2 stamps 0 0 limit 30", "done"),
                ("plan", "waits 2 0 stamps 2 0 limit 30; waits 0 2 stamps 0 0 limit -"),
                ("change 1 waits 2 0 stamps 2 -1 limit -99", None),
                ("change 1 waits 2 1 stamps 1 -1 limit 31", "done"),
                ("plan", "waits 2 0 stamps 2 0 limit 30; waits 0 2 stamps 0 0 limit 31; waits 2 1 stamps 1 -1 limit -")]:
            if told is None:
                with self.assertRaises(InvalidEvent):
                    desk_line(live, line)
            else:
                self.same(desk_line(live, line), told)
        self.same(desk_line(text="now", live=live), "18")

    def test_books(self):
        # For each looked book its deeds by commas, by blanks; "-" for none in a book, "-" without a book.
        live = LiveHouse(CLUB, 1, (9, 9, 9, 9), (0, 0, 0, 0))
        for line in ("ask 0", "ask 3", "wait 1", "ask 0", "wait 6", "ask 1", "ask 2", "wait 20"):
            desk_line(live, line)
        self.same([desk_line(live, "shown %d" % deed) for deed in range(5)], ["-", "-", "-", "0,2 0,2", "0,2"])
        live = LiveHouse(CLUB, 1, (9, 9, 9, 9), (0, 0, 0, 0))
        for line in ("ask 1", "wait 10", "ask 2", "ask 1", "wait 20"):
            desk_line(live, line)
        self.same([desk_line(live, "shown %d" % deed) for deed in range(3)], ["- -", "-", "- 0"])

    def test_as_the_house(self):
        for start, events, slow in some_story(921, 80):
            live, other = LiveHouse(*start), LiveHouse(*start)
            for event, reason in events:
                if reason == "shape":
                    continue
                if reason is None:
                    got = other.go(event)
                    self.same(desk_line(live, event_line(event)), "done" if got is None else "deed %d" % got)
                else:
                    self.fails(InvalidEvent, (event, reason), desk_line, live, event_line(event))
            self.same(live == other, True)
            before = told_by(live)
            self.same(desk_line(live, "now"), str(live.now()))
            for word, lot in (("waiting", live.waiting()), ("spoilt", live.spoilt())):
                self.same(desk_line(live, word), " ".join(map(str, lot)) if lot else "-")
            for deed in range(len(live.asks_now())):
                self.same(desk_line(live, "due %d" % deed), str(live.due_at(deed)))
                shown = live.shown(deed)
                told = "waits" if shown is None else " ".join(",".join(map(str, book)) or "-" for book in shown) or "-"
                self.same(desk_line(live, "shown %d" % deed), told)
            pieces = ["waits %s stamps %s limit %s" % (" ".join(map(str, waits)), " ".join(map(str, stamps)),
                                                      "-" if limit is None else limit)
                      for waits, stamps, limit in live.plan_now()]
            self.same(desk_line(live, "plan"), "; ".join(pieces))
            self.same(told_by(live), before)
            self.same(replayed(*start, live.log()) == live, True)

    def test_wrong_lines(self):
        live = replayed(*START, (("ask", 0), ("wait", 3), ("ask", 1)))
        before = told_by(live)
        for line, field in WRONG:
            if line not in ("now", "plan"):
                self.fails(InvalidText, (0, field), desk_line, live, line)
        for line, field in [
                ("now 0", 1), ("now ", 1), ("waiting -", 1), ("spoilt 0 1", 1), ("plan x", 1), ("due", 1), ("shown", 1), ("due ", 1),
                ("due 2", 1), ("shown 2", 1), ("due %d" % BIG, 1), ("due -1", 1), ("due 00", 1), ("due x", 1), ("due 0 0", 2),
                ("shown 0 ", 2), ("shown 1 x", 2), ("due 2 x", 1), ("Now", 0), (" now", 0), ("dues 0", 0), ("undo", 0), ("log", 0),
                ("history", 0), ("waits", 0), ("held", 0), ("now\n", 0)]:
            self.fails(InvalidText, (0, field), desk_line, live, line)
        self.fails(InvalidRow, (0,), desk_line, live, "wait 0")
        self.fails(InvalidEvent, (("ask", 2), "door"), desk_line, live, "ask 2")
        self.fails(InvalidEvent, (("come", 0, 1), "come"), desk_line, live, "come 0 1")
        self.fails(InvalidEvent, (("change", 0, (2,), (0,), 5), "waits"), desk_line, live, "change 0 waits 2 stamps 0 limit 5")
        self.same((told_by(live), len(live.log())), (before, 3))
        empty = LiveHouse(*START)
        for line in ("due 0", "shown 0"):
            self.fails(InvalidText, (0, 1), desk_line, empty, line)

    def test_wrong(self):
        live = LiveHouse(*START)
        for value in NOT_TUPLES + (START, SHOP, told_by(live), LiveHouse):
            self.unusable("live", desk_line, value, None)
        for value in NOT_TUPLES:
            if not isinstance(value, str):
                self.unusable("text", desk_line, live, value)

    def test_great_numbers(self):
        live = LiveHouse(with_part(SHOP, (0, 0, 1), BIG), 10 ** 6, (BIG, 0), (BIG, 0))
        for line, told in [("ask 0", "deed 0"), ("due 0", str(10 ** 36)), ("wait " + "9" * 40, "done"), ("now", "9" * 40),
                           ("shown 0", "-"), ("ask 1", "deed 1"), ("wait 1", "done"), ("shown 1", "0"),
                           ("change 0 waits %d 0 stamps %d 0 limit %d" % (BIG, BIG, 10 ** 42), "done")]:
            self.same(desk_line(live, line), told)
