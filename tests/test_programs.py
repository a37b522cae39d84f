"""Programs and their breaking: [57], [58], (G5) and of [59] what speaks of them."""

from bestunmoved.askkinds import is_asks
from bestunmoved.breaking import breaking_run, lets_break
from bestunmoved.errors import InvalidPaper
from bestunmoved.forced import forced_pairs
from bestunmoved.historykinds import first_fault
from bestunmoved.judging import is_kept
from bestunmoved.news import latest_news
from bestunmoved.orders import deed_ring
from bestunmoved.programs import is_program, program_run, stamp_program, waits_of
from bestunmoved.ringchecker import lets_ring
from bestunmoved.stampruns import stamp_run
from bestunmoved.tables import table_of
from tests.helpers import (BIG, LONE, NOT_INTEGERS, NOT_NUMBERS, NOT_TUPLES, SHOP, Case, chance, slow_rings, with_item,
                           with_part)
from tests.slowdeeds import seen_house, slow_pairs
from tests.slowruns import (POST, POST_ASKS, place_of, slow_program, some_asks, some_news, some_program, some_runs)
from tests.test_runs import POST_NEWS

WORDS = ("stamp", "known", "asked", "here")
BAD = (("stamp", 1, 0), ("known", 0, 0))
PAPER = (((0, 0), (1, 3)), ((0, 0, 2, ()), (1, 3, 3, ((),))), (0, 1))


class Programs(Case):

    def test_is_program(self):
        for word in WORDS:
            for wait, shift in ((0, 0), (BIG, -BIG), (3, BIG)):
                self.same(is_program(SHOP, ((word, wait, shift), ("here", 0, 0))), True)
        self.same(is_program(LONE, (("known", 0, -1),)), True)
        for thing in NOT_TUPLES + ((), BAD[:1], BAD + BAD[:1], list(BAD), (BAD[0], None), (BAD[0], ["known", 0, 0]),
                                   (BAD[0], ("known", 0)), (BAD[0], ("known", 0, 0, 0)), "00", ("stamp", 1, 0)):
            self.same(is_program(SHOP, thing), False)
        for at in range(2):
            for word in NOT_TUPLES + ("Stamp", "stamps", "", ("stamp",), "own"):
                self.same(is_program(SHOP, with_part(BAD, (at, 0), word)), False)
            for value in NOT_NUMBERS:
                self.same(is_program(SHOP, with_part(BAD, (at, 1), value)), False)
            for value in NOT_INTEGERS:
                self.same(is_program(SHOP, with_part(BAD, (at, 2), value)), False)

    def test_made_of_waits_and_stamps(self):
        self.same(stamp_program(SHOP, (2, 0), (-1, 3)), (("stamp", 2, -1), ("stamp", 0, 3)))
        self.same(waits_of(SHOP, BAD), (1, 0))
        self.same(waits_of(SHOP, stamp_program(SHOP, (2, 5), (-1, 3))), (2, 5))

    def test_example(self):
        self.same(program_run(SHOP, 1, (("here", 0, 0), ("known", 0, 5)), ((0, 0), (0, 1), (1, 4)), ((0, 4), (0, 1), (3, 0))),
                  ((0, 0, 0, ()), (0, 1, 1, ()), (1, 4, 4, ((1, 0),))))

    def test_each_word(self):
        # Two writers of a row at two places, one looker of it that also writes it.
        house = (((0, 1), (1, 0)), ("row",), ((0, (0,), ()), (1, (0,), ()), (1, (0,), (0,))), ((0,) * 3,) * 3)
        asks = ((0, 0), (0, 1), (1, 2), (2, 3), (2, 5), (1, 5), (0, 6))
        news = ((0, 5), (0, 2), (0, 0), (0, 0), (0, 0), (0, 0), (0, 9))
        shown = {
            "stamp": ((0, 1, 2, 3, 5),), "known": ((2, 1, 3, 0, 5),), "asked": ((0, 1, 2, 3),), "here": ((2, 3),)}
        for word, want in shown.items():
            program = (("here", 0, 0), ("here", 0, 0), (word, 1, 0))
            self.same(program_run(house, 1, program, asks, news)[4], (2, 5, 6, want))
            # By another shift it stands elsewhere; no other word asks for that.
            program = (("here", 0, 2), ("here", 0, -9), (word, 1, 0))
            self.same(program_run(house, 1, program, asks, news)[4][3], ((2, 5, 0, 1, 3),) if word == "stamp" else want)

    def test_comes_at_the_very_moment(self):
        for word in ("stamp", "known", "asked"):
            for entry, shown in ((4, (0,)), (5, ())):
                got = program_run(SHOP, 1, (("here", 0, 0), (word, 1, 0)), ((0, 0), (1, 3)), ((0, entry), (9, 0)))
                self.same(got[1], (1, 3, 4, (shown,)))
        # No record is known at a place to which no way leads.
        for word in WORDS:
            program = tuple((word, 99, 0) for _ in range(4))
            for deed, (door, _) in enumerate(POST_ASKS):
                if door == 3:
                    self.same(program_run(POST, 1, program, POST_ASKS, POST_NEWS)[deed][3], ())

    def test_by_definition(self):
        source = chance(57)
        for house, grain, waits, _, asks, news in some_runs(400, 571):
            program = some_program(source, house, waits)
            got = program_run(house, grain, program, asks, news)
            self.same(got, slow_program(house, grain, program, asks, news))
            self.same(first_fault(house, got), None)

    def test_forty(self):
        source = chance(572)
        asks = some_asks(source, POST, 40, 30)
        news = some_news(source, POST, 1, asks, 0.3)
        for word in WORDS:
            program = tuple((word, wait, wait - 2) for wait in (0, 3, 1, 2))
            self.same(program_run(POST, 1, program, asks, news), slow_program(POST, 1, program, asks, news))

    def test_consequences(self):
        source = chance(59)
        for house, grain, waits, stamps, asks, news in some_runs(120, 591):
            self.same(program_run(house, grain, stamp_program(house, waits, stamps), asks, news),
                      stamp_run(house, grain, waits, stamps, asks, news))
            program = some_program(source, house, waits)
            moved = tuple((word, wait, shift + 5) for word, wait, shift in program)
            self.same(program_run(house, grain, moved, asks, news), program_run(house, grain, program, asks, news))

    def test_without_one_ask(self):
        # Each answer at whose place and moment its record is not known stays the same, numbers one less.
        source = chance(592)
        stayed = 0
        for house, grain, waits, _, asks, news in some_runs(200, 593):
            if not asks:
                continue
            program = some_program(source, house, waits)
            gone = source.randrange(len(asks))
            less = program_run(house, grain, program, asks[:gone] + asks[gone + 1:], news[:gone] + news[gone + 1:])
            for deed, answer in enumerate(program_run(house, grain, program, asks, news)):
                entry = news[gone][place_of(house, answer[0])]
                if deed == gone or (entry is not None and asks[gone][1] + entry <= answer[2]):
                    continue
                shown = tuple(tuple(d - (d > gone) for d in book) for book in answer[3])
                self.same(less[deed - (deed > gone)], answer[:3] + (shown,))
                stayed += 1
        self.assertGreater(stayed, 100)

    def test_wrong(self):
        for program in NOT_TUPLES + ((), BAD[:1], list(BAD), (BAD[0], ("own", 0, 0)), (BAD[0], ("here", True, 0)),
                                     (BAD[0], ("here", -1, 0)), (BAD[0], ("here", 0, None))):
            self.unusable("program", waits_of, SHOP, program)
            self.unusable("program", program_run, SHOP, 1, program, None, None)
            self.unusable("program", breaking_run, SHOP, program)
            self.unusable("program", lets_break, SHOP, program, None)
        for grain in NOT_INTEGERS + (0, -1):
            self.unusable("grain", program_run, SHOP, grain, None, None, None)
        for asks in NOT_TUPLES + (((1, 3), (0, 2)), ((2, 0),), ((0,),), ((0, True),)):
            self.unusable("asks", program_run, SHOP, 1, BAD, asks, None)
        for news in NOT_TUPLES + ((), ((0, 4),), ((0, None), (4, 0)), ((1, 4), (4, 0)), ((0, 4), (4, False))):
            self.unusable("news", program_run, SHOP, 1, BAD, PAPER[0], news)
        for value in NOT_NUMBERS:
            self.unusable("waits", stamp_program, SHOP, (0, value), None)
        for value in NOT_INTEGERS:
            self.unusable("stamps", stamp_program, SHOP, (0, 0), (0, value))


class Breaking(Case):

    def check(self, house, program, paper):
        """The paper is as [58] says, by slow readings."""
        grain = len(house[2])
        asks, history, ring = paper
        self.assertEqual([part.__class__ for part in (paper, asks, history, ring)], [tuple] * 4)
        self.assertTrue(is_asks(house, asks))
        doors = [door for door, _ in asks]
        self.assertEqual(len(set(doors)), len(doors))
        # Some sequence of these moments is a barring ring.
        moments = dict(asks)
        table = table_of(house)
        waits = waits_of(house, program)
        rings = [one for one in slow_rings(table) if sorted(one) == sorted(doors)
                 and all(moments[y] > moments[x] + grain * (waits[x] - table[x][y])
                         for x, y in zip(one, one[1:] + one[:1]))]
        self.assertNotEqual(rings, [])
        self.same(lets_ring(table, grain, waits, tuple((x, moments[x]) for x in rings[0])), rings[0])
        self.same(history, slow_program(house, grain, program, asks, latest_news(house, grain, asks)))
        pairs = slow_pairs(house, grain, history)
        self.assertTrue(len(ring) > 1 and len(set(ring)) == len(ring))
        self.assertTrue(all(step in pairs for step in zip(ring, ring[1:] + ring[:1])))
        self.same(lets_break(house, program, paper), ring)

    def test_examples(self):
        self.same(lets_break(SHOP, BAD, PAPER), (0, 1))
        self.check(SHOP, BAD, breaking_run(SHOP, BAD))
        self.same(breaking_run(SHOP, (("stamp", 1, 0), ("known", 1, 0))), None)
        self.same(breaking_run(LONE, (("stamp", 0, 0),)), None)

    def test_by_definition(self):
        source = chance(58)
        kinds = [0, 0]
        for _ in range(400):
            house = seen_house(source, doors=4)
            program = some_program(source, house, tuple(source.randint(0, 1) for _ in house[2]))
            paper = breaking_run(house, program)
            kept = is_kept(table_of(house), waits_of(house, program))
            self.same(paper is None, kept)
            kinds[kept] += 1
            if not kept:
                self.check(house, program, paper)
        self.assertGreater(min(kinds), 40)

    def test_each_program_breaks(self):
        # The asks of one barring ring leave a ring of deeds by each program with these waits.
        source = chance(581)
        done = 0
        for _ in range(300):
            house = seen_house(source, doors=4)
            waits = tuple(source.randint(0, 2) for _ in house[2])
            if is_kept(table_of(house), waits):
                continue
            grain = len(house[2])
            asks = breaking_run(house, stamp_program(house, waits, waits))[0]
            for _ in range(6):
                program = some_program(source, house, waits)
                history = program_run(house, grain, program, asks, latest_news(house, grain, asks))
                self.assertIsNotNone(deed_ring(house, grain, history))
            done += 1
        self.assertGreater(done, 20)

    def test_great_numbers(self):
        house = (((0, BIG), (BIG, 0)),) + SHOP[1:]
        program = (("known", BIG - 1, -BIG), ("stamp", 0, BIG))
        self.check(house, program, breaking_run(house, program))
        self.same(breaking_run(house, with_part(program, (0, 1), BIG)), None)

    def refused(self, word, paper, program=BAD, house=SHOP):
        self.fails(InvalidPaper, (word, -1), lets_break, house, program, paper)

    def test_checker(self):
        for paper in NOT_TUPLES + ((), PAPER[:2], PAPER + (0,), list(PAPER)):
            self.refused("shape", paper)
        for asks in NOT_TUPLES + (((1, 3), (0, 2)), ((0, 0), (2, 3)), [(0, 0), (1, 3)], ((0, 0), (0, 3)), ((0, 0), (1,)),
                                  ((0, False), (1, 3)), ((0, 0), (1, 3), (1, 4)), ((1, 0), (0, 3), (1, 3))):
            self.refused("asks", (asks, None, None))
        for history in NOT_TUPLES + ((), PAPER[1][:1], list(PAPER[1]), with_part(PAPER[1], (1, 3, 0), (0,)),
                                     with_part(PAPER[1], (0, 2), 3), with_part(PAPER[1], (0, 0), False),
                                     with_part(PAPER[1], (0, 0), True), with_part(PAPER[1], (1, 1), 2),
                                     with_part(PAPER[1], (1, 0), True), PAPER[1][::-1], with_part(PAPER[1], (0,), None)):
            self.refused("history", (PAPER[0], history, None))
        for ring in NOT_TUPLES + ((), (0,), (0, 0), (0, 1, 0), (0, 2), [0, 1], (False, True), (0, True), (0, None),
                                  ((0,), (1,)), (-1, 0)):
            self.refused("ring", with_item(PAPER, 2, ring))
        self.same(lets_break(SHOP, BAD, with_item(PAPER, 2, (1, 0))), (1, 0))
        self.refused("ring", ((), (), ()))
        self.refused("ring", (((0, 0),), ((0, 0, 2, ()),), (0,)))

    def test_checker_asks_at_the_grain_of_the_doors(self):
        # A duty of two units is four beats: the looker, asked at 3, need not stand behind; asked at 5 it must.
        house = with_item(SHOP, 3, ((0, 2), (0, 0)))
        program = (("stamp", 0, 9), ("stamp", 0, 0))
        for asked, fine in ((3, False), (5, True)):
            asks = ((0, 0), (1, asked))
            history = program_run(house, 2, program, asks, latest_news(house, 2, asks))
            self.same(history[1][3], ((),))
            if fine:
                self.same(lets_break(house, program, (asks, history, (0, 1))), (0, 1))
            else:
                self.refused("ring", (asks, history, (0, 1)), program, house)

    def test_checker_does_not_ask_whether_waits_are_kept(self):
        # Kept waits leave no ring with letters in time, and so only the ring is refused.
        program = (("stamp", 2, 2), ("stamp", 0, 0))
        asks = ((0, 0), (1, 3))
        history = program_run(SHOP, 2, program, asks, latest_news(SHOP, 2, asks))
        self.same(forced_pairs(SHOP, 2, history), ((1, 0),))
        self.refused("ring", (asks, history, (0, 1)), program)
        # A program that shows what has come may break, though its waits are kept.
        program = (("known", 2, 0), ("known", 0, 0))
        loop = (((0, 0), (0, 0)), ("lot", "lot"), ((0, (0,), (1,)), (1, (1,), (0,))), ((0, 0), (0, 0)))
        asks = ((0, 0), (1, 0))
        history = program_run(loop, 2, program, asks, latest_news(loop, 2, asks))
        self.same(history, ((0, 0, 4, ((1,),)), (1, 0, 0, ((0,),))))
        self.same(is_kept(table_of(loop), (2, 0)), True)
        self.same(lets_break(loop, program, (asks, history, (1, 0))), (1, 0))
