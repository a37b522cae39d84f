"""Spoilt answers, cuts and folds, lines and runs as objects: [60] to [62], and (G3) and (G4)."""

from bestunmoved.errors import InvalidRow, InvalidText
from bestunmoved.folds import cut_of, fold_of, shown_from
from bestunmoved.judging import is_kept
from bestunmoved.news import latest_news
from bestunmoved.programs import is_program
from bestunmoved.runclasses import Run
from bestunmoved.runtexts import asks_line, program_line, read_asks, read_program
from bestunmoved.spoils import lacked_by, spoilt_deeds
from bestunmoved.stampruns import stamp_run
from bestunmoved.stamps import least_stamps
from bestunmoved.standings import due_run
from bestunmoved.tables import table_of
from bestunmoved.verdicts import verdict_of
from tests.helpers import (BIG, LONE, NOT_INTEGERS, NOT_NUMBERS, NOT_TUPLES, SHOP, Case, chance, with_item)
from tests.slowdeeds import CLUB, books_of, writes
from tests.slowruns import (POST, POST_ASKS, place_of, post_office, slow_answers, slow_cut, slow_due, slow_order,
                            slow_run, some_asks, some_news, some_program, some_runs)
from tests.test_runs import POST_NEWS

ASKS = ((0, 0), (1, 3))
NEWS = ((0, 4), (4, 0))
SIX = (SHOP, 2, (1, 0), (0, 0), ASKS, NEWS)


def seen_there(house, place):
    """The doors that some door at the place sees, by the definition."""
    lookers = [x for x, door in enumerate(house[2]) if door[0] == place]
    return [y for y in range(len(house[2])) if any(writes(house, y, b) for x in lookers for b in books_of(house, x))]


def known_there(asks, news, place, moment):
    """The deeds that are known at the place at the moment."""
    return [d for d, (_, asked) in enumerate(asks)
            if news[d][place] is not None and asked + news[d][place] <= moment]


class Spoils(Case):

    def test_examples(self):
        self.same(spoilt_deeds(*SIX), (1,))
        self.same([lacked_by(*SIX, deed) for deed in (0, 1)], [(), (0,)])
        self.same(spoilt_deeds(*SIX[:4], (), ()), ())

    def test_by_definition(self):
        spoilt = 0
        for run in some_runs(700, 60, late=0.5):
            asks = run[4]
            got, due = slow_run(*run), slow_due(*run[:5])
            want = tuple(d for d in range(len(asks)) if got[d] != due[d])
            self.same(spoilt_deeds(*run), want)
            spoilt += want != ()
            for deed in range(len(asks)):
                lacked = {d for book, there in zip(due[deed][3], got[deed][3]) for d in book if d not in there}
                self.same(lacked_by(*run, deed), tuple(sorted(lacked)))
                self.same(lacked_by(*run, deed) == (), deed not in want)
        self.assertGreater(spoilt, 60)

    def test_what_is_lacked(self):
        # They stand ahead, are seen and not known at the answer; in whatever book.
        for run in some_runs(150, 601, late=0.5):
            house, grain, waits, stamps, asks, news = run
            order = slow_order(grain, stamps, asks)
            known = post_office(house, asks, news, slow_answers(grain, waits, asks))
            for deed, (door, _) in enumerate(asks):
                there = [d for _, d in known[deed]]
                lacks = [d for d in order[:order.index(deed)] if d not in there
                         and any(writes(house, asks[d][0], book) for book in books_of(house, door))]
                self.same(lacked_by(*run, deed), tuple(sorted(lacks)))

    def test_kept_waits_and_news_in_time_spoil_nothing(self):
        for house, grain, waits, _, asks, news in some_runs(200, 602, late=0):
            if is_kept(table_of(house), waits):
                stamps = least_stamps(table_of(house), waits)
                self.same(spoilt_deeds(house, grain, waits, stamps, asks, news), ())

    def test_wrong(self):
        for value in NOT_NUMBERS + (2, BIG):
            self.unusable("deed", lacked_by, *SIX, value)
        self.unusable("deed", lacked_by, *SIX[:4], (), (), 0)


class Cuts(Case):

    def test_examples(self):
        self.same(cut_of(SHOP, 2, (0, 2), (0, 0), ASKS, 1, 5), 2)
        self.same(fold_of(SHOP, 2, (0, 2), (0, 0), ASKS, NEWS, 1, 5), (((0,),), ()))
        self.same(shown_from(SHOP, 2, (0, 2), (0, 0), ASKS, NEWS, 1, 5, 1), ((0,),))

    def test_cut_edges(self):
        # Nobody at place 0 looks at a book.
        self.same(cut_of(SHOP, 2, (0, 2), (0, 0), ASKS, 0, 5), None)
        self.same(fold_of(SHOP, 2, (0, 2), (0, 0), ASKS, NEWS, 0, 5), (((),), ()))
        self.same(cut_of(LONE, 1, (0,), (0,), (), 0, 0), None)
        # The looker's stamp, the way of what it sees, and a deed between ask and answer: the least of them.
        self.same([cut_of(SHOP, 2, (0, 9), (9, 0), (), 1, now) for now in (0, 5, 10 ** 40)], [1, 6, 10 ** 40 + 1])
        self.same([cut_of(SHOP, 2, (0, 9), (0, 9), (), 1, now) for now in (0, 5, 10 ** 40)], [-3, 2, 10 ** 40 - 3])
        self.same([cut_of(SHOP, 2, (0, 2), (9, 0), ((1, 3),), 1, now) for now in (2, 3, 4, 6, 7)], [3, 3, 3, 3, 8])
        self.same(cut_of(SHOP, 2, (0, 0), (9, 0), ((1, 3),), 1, 3), 4)
        self.same(cut_of(SHOP, 10 ** 6, (0, 0), (-BIG, 0), (), 1, 0), 1 - 10 ** 36 - 2 * 10 ** 6)
        # A deed of a door that looks at nothing does not hold the cut.
        both = (SHOP[0], SHOP[1], SHOP[2] + ((1, (), ()),), ((0,) * 3,) * 3)
        self.same(cut_of(both, 1, (0, 9, 9), (5, 0, 0), ((2, 0),), 1, 4), 5)
        self.same(cut_of(both, 1, (0, 9, 9), (5, 0, 0), ((1, 0),), 1, 4), 0)

    def test_cut_by_definition(self):
        for house, grain, waits, stamps, asks, _ in some_runs(150, 61):
            for place in range(len(house[0])):
                for moment in range(0, 18, 2):
                    self.same(cut_of(house, grain, waits, stamps, asks, place, moment),
                              slow_cut(house, grain, waits, stamps, asks, place, moment))

    def test_fold_by_definition(self):
        full = [0, 0]
        for house, grain, waits, stamps, asks, news in some_runs(250, 611):
            for place in range(len(house[0])):
                moment = 3 + 4 * place
                cut = slow_cut(house, grain, waits, stamps, asks, place, moment)
                known = [d for d in known_there(asks, news, place, moment) if asks[d][0] in seen_there(house, place)]
                stamp = {d: asks[d][1] + grain * stamps[asks[d][0]] for d in known}
                order = [d for d in slow_order(grain, stamps, asks) if d in known]
                folded = tuple(tuple(d for d in order if writes(house, asks[d][0], book) and stamp[d] < cut)
                               for book in range(len(house[1])))
                kept = tuple(d for d in known if stamp[d] >= cut)
                self.same(fold_of(house, grain, waits, stamps, asks, news, place, moment), (folded, kept))
                full[0] += any(folded)
                full[1] += kept != ()
        self.assertGreater(min(full), 40)

    def test_fold_has_all_books(self):
        # Also those at which nobody there looks; and those of a door that sees itself.
        house = (((0,),), ("lot", "row"), ((0, (0, 1), (0,)),), ((0,),))
        asks = ((0, 5), (0, 2), (0, 2))[::-1]
        self.same(fold_of(house, 1, (0,), (0,), asks, ((0,),) * 3, 0, 9), (((0, 1, 2), (0, 1, 2)), ()))
        # In the sequence in which they stand, in a "lot" too.
        two = (((0,),), ("lot",), ((0, (0,), (0,)), (0, (0,), ())), ((0, 0), (0, 0)))
        self.same(fold_of(two, 1, (0, 0), (3, 0), ((0, 0), (1, 1), (1, 9)), ((0,),) * 3, 0, 8), (((1, 0),), ()))
        self.same(fold_of(two, 1, (0, 0), (3, -5), ((0, 0), (0, 2), (1, 6)), ((0,),) * 3, 0, 7), (((2,),), (0, 1)))

    def test_known_below_the_cut_and_later_above(self):
        # (G4): with news in time every seen record below the cut is known; later answers stand above; it never falls.
        for late in (0, 0.5):
            for house, grain, waits, stamps, asks, news in some_runs(150, 612, late=late):
                answers = slow_answers(grain, waits, asks)
                for place in range(len(house[0])):
                    last = None
                    for moment in range(0, 20):
                        cut = cut_of(house, grain, waits, stamps, asks, place, moment)
                        if cut is None:
                            continue
                        self.assertTrue(last is None or last <= cut)
                        last = cut
                        known = known_there(asks, news, place, moment)
                        for d, (door, asked) in enumerate(asks):
                            stamp = asked + grain * stamps[door]
                            if late == 0 and door in seen_there(house, place) and stamp < cut:
                                self.assertIn(d, known)
                            if place_of(house, door) == place and books_of(house, door) and answers[d] > moment:
                                self.assertGreaterEqual(stamp, cut)

    def test_no_greater_number_will_do(self):
        # (G4): behind the longest way, a further ask with a stamp of just the cut is not known or answered later.
        done = 0
        for house, grain, waits, stamps, asks, _ in some_runs(200, 613):
            longest = max(way for row in house[0] for way in row if way is not None)
            for place in range(len(house[0])):
                for moment in (grain * longest, grain * longest + 5):
                    cut = cut_of(house, grain, waits, stamps, asks, place, moment)
                    if cut is not None:
                        self.assertTrue(self.is_broken(house, grain, waits, stamps, asks, place, moment, cut + 1))
                        done += 1
        self.assertGreater(done, 100)

    def is_broken(self, house, grain, waits, stamps, asks, place, moment, number):
        """Whether some further ask shows that the number is too great."""
        lookers = [x for x, door in enumerate(house[2]) if door[0] == place and door[2]]
        further = [(door, asked) for door in range(len(house[2])) for asked in range(moment + 2)]
        for door, asked in list(asks) + further:
            if asked + grain * stamps[door] >= number:
                continue
            if door in lookers and asked + grain * waits[door] > moment:
                return True
            if door in seen_there(house, place) and asked + grain * house[0][place_of(house, door)][place] > moment:
                return True
        return False

    def test_put_together(self):
        # With news in time this is what the deed shows in its run.
        shown = 0
        for house, grain, waits, stamps, asks, news in some_runs(200, 614, late=0):
            answers = slow_answers(grain, waits, asks)
            for told in (news, latest_news(house, grain, asks)):
                history = slow_run(house, grain, waits, stamps, asks, told)
                for deed, (door, _) in enumerate(asks):
                    for moment in range(0, 16, 3):
                        args = (house, grain, waits, stamps, asks, told, place_of(house, door), moment, deed)
                        if books_of(house, door) and answers[deed] > moment:
                            self.same(shown_from(*args), history[deed][3])
                            shown += history[deed][3] != ((),) * len(history[deed][3])
                        else:
                            self.unusable("deed", shown_from, *args)
        self.assertGreater(shown, 100)

    def test_put_together_with_any_news(self):
        for house, grain, waits, stamps, asks, news in some_runs(150, 615, late=0.6):
            answers = slow_answers(grain, waits, asks)
            order = slow_order(grain, stamps, asks)
            for deed, (door, _) in enumerate(asks):
                place = place_of(house, door)
                for moment in range(0, answers[deed], 2):
                    if not books_of(house, door):
                        continue
                    cut = slow_cut(house, grain, waits, stamps, asks, place, moment)
                    folded = fold_of(house, grain, waits, stamps, asks, news, place, moment)[0]
                    known = known_there(asks, news, place, answers[deed])
                    behind = [d for d in order[:order.index(deed)] if d in known
                              and asks[d][1] + grain * stamps[asks[d][0]] >= cut]
                    want = []
                    for book in books_of(house, door):
                        deeds = folded[book] + tuple(d for d in behind if writes(house, asks[d][0], book))
                        want.append(tuple(sorted(deeds)) if house[1][book] == "lot" else deeds)
                    got = shown_from(house, grain, waits, stamps, asks, news, place, moment, deed)
                    self.same(got, tuple(want))

    def test_what_comes_late_below_the_cut_is_not_shown(self):
        asks = ((0, 0), (1, 9))
        late = ((0, 9), (4, 0))
        self.same(stamp_run(SHOP, 2, (0, 2), (0, 0), asks, late)[1][3], ((0,),))
        self.same(shown_from(SHOP, 2, (0, 2), (0, 0), asks, late, 1, 8, 1), ((),))
        self.same(shown_from(SHOP, 2, (0, 2), (0, 0), asks, late, 1, 9, 1), ((0,),))

    def test_wrong(self):
        for value in NOT_NUMBERS + (2,):
            self.unusable("place", cut_of, *SIX[:5], value, None)
            self.unusable("place", fold_of, *SIX, value, None)
            self.unusable("place", shown_from, *SIX, value, None, None)
            self.unusable("deed", shown_from, *SIX, 1, 1, value)
        for value in NOT_NUMBERS:
            self.unusable("moment", cut_of, *SIX[:5], 1, value)
            self.unusable("moment", fold_of, *SIX, 1, value)
            self.unusable("moment", shown_from, *SIX, 1, value, None)
        # A deed of another place, of a door that looks at nothing, or answered by then.
        self.same(shown_from(*SIX, 1, 2, 1), ((),))
        for place, moment, deed in ((1, 3, 1), (1, 4, 1), (0, 2, 1), (0, 0, 0), (1, 0, 0)):
            self.unusable("deed", shown_from, *SIX, place, moment, deed)
        for at, word in ((1, "grain"), (2, "waits"), (3, "stamps"), (4, "asks"), (5, "news")):
            broken = with_item(SIX, at, None)
            self.unusable(word, spoilt_deeds, *broken)
            self.unusable(word, lacked_by, *broken, None)
            self.unusable(word, fold_of, *broken, None, None)
            self.unusable(word, shown_from, *broken, None, None, None)
            if at < 5:
                self.unusable(word, cut_of, *broken[:5], None, None)


class Lines(Case):

    def test_asks(self):
        self.same((asks_line(SHOP, ASKS), asks_line(SHOP, ())), ("0 0; 1 3", "-"))
        self.same((read_asks(SHOP, "0 0; 1 3"), read_asks(SHOP, "-")), (ASKS, ()))
        huge = ((0, 10 ** 40), (1, 10 ** 700))
        self.same(read_asks(SHOP, asks_line(SHOP, huge)), huge)
        source = chance(62)
        for k in range(60):
            asks = some_asks(source, POST, k % 9)
            self.same(read_asks(POST, asks_line(POST, asks)), asks)
            self.assertEqual(asks_line(POST, asks), "; ".join("%d %d" % ask for ask in asks) or "-")
        forty = tuple((0, 7) for _ in range(40))
        self.same(read_asks(LONE, asks_line(LONE, forty)), forty)

    def test_asks_refused(self):
        for field in ("", "x", "-1", "+1", "00", "01", "-0", "1,", "-", "--", "0x0"):
            self.fails(InvalidText, (0, 0), read_asks, SHOP, field + " 0")
            self.fails(InvalidText, (1, 1), read_asks, SHOP, "0 0; 0 " + field)
        for text, line, field in [("", 0, 0), ("0", 0, 1), ("0 0 0", 0, 2), ("0 0 ", 0, 2), ("0  0", 0, 1), (" 0 0", 0, 0),
                                  ("0 0; ", 1, 0), ("0 0; 1", 1, 1), ("0 0; 1 3 3 3", 1, 2), ("0 0;1 3", 0, 1),
                                  ("-; 0 0", 0, 0), ("0 0; -", 1, 0), ("- -", 0, 0), ("0 0 x", 0, 2), ("0 x 0", 0, 1)]:
            self.fails(InvalidText, (line, field), read_asks, SHOP, text)
        for text, line in [("2 0", 0), ("0 5; 1 4", 1), ("0 5; 1 5; 9 9", 2), ("9 0; x", 0), ("0 1; 0 0; x y z", 1)]:
            self.fails(InvalidRow, (line,), read_asks, SHOP, text)
        # In one piece the text goes ahead.
        self.fails(InvalidText, (0, 2), read_asks, SHOP, "9 0 0")
        self.fails(InvalidText, (1, 1), read_asks, SHOP, "0 5; 9 x")
        self.same(read_asks(SHOP, "0 5; 1 5"), ((0, 5), (1, 5)))

    def test_programs(self):
        program = (("stamp", 2, -1), ("known", 0, 0))
        self.same((program_line(SHOP, program), read_program(SHOP, "stamp 2 -1; known 0 0")),
                  ("stamp 2 -1; known 0 0", program))
        self.same(read_program(LONE, "here 10 10"), (("here", 10, 10),))
        source = chance(621)
        for _ in range(60):
            program = some_program(source, POST, (0, 3, BIG, 10 ** 500))
            line = program_line(POST, program)
            self.same(read_program(POST, line), program)
            self.assertTrue(is_program(POST, read_program(POST, line)))
        great = (("asked", BIG, -10 ** 700), ("known", 0, 10 ** 700))
        self.same(read_program(SHOP, program_line(SHOP, great)), great)

    def test_programs_refused(self):
        for word in ("", "Stamp", "stamps", "own", "0", "-", "known,"):
            self.fails(InvalidText, (0, 0), read_program, SHOP, word + " 0 0; known 0 0")
            self.fails(InvalidText, (1, 0), read_program, SHOP, "known 0 0; %s 0 0" % word)
        for field in ("", "x", "-1", "00", "01", "-", "+0", "-0"):
            self.fails(InvalidText, (0, 1), read_program, SHOP, "here %s 0; known 0 0" % field)
        for field in ("", "x", "00", "01", "-", "+0", "-0", "-01", "--1", "-00", "0-"):
            self.fails(InvalidText, (1, 2), read_program, SHOP, "here 0 0; known 0 " + field)
        for text, line, field in [("", 0, 0), ("here", 0, 1), ("here 0", 0, 2), ("here 0 0 0", 0, 3), ("here 0 0 ", 0, 3),
                                  ("-", 0, 0), ("here 0 0", 1, 0), ("here 0 0; ", 1, 0), ("here 0 0; known", 1, 1),
                                  ("here  0 0", 0, 1), (" here 0 0", 0, 0), ("here x 0 0", 0, 1), ("here 0 0 0; x", 0, 3)]:
            self.fails(InvalidText, (line, field), read_program, SHOP, text)
        self.fails(InvalidRow, (2,), read_program, SHOP, "here 0 0; here 0 0; here 0 0")
        self.fails(InvalidRow, (1,), read_program, LONE, "here 0 0; here 0 0; x")
        # In a piece without a door, too, the text goes ahead.
        self.fails(InvalidText, (1, 1), read_program, LONE, "here 0 0; here")
        self.fails(InvalidText, (1, 3), read_program, LONE, "here 0 0; here 0 0 0")

    def test_wrong(self):
        for text in NOT_TUPLES + ((), ("-",), b"-"):
            if not isinstance(text, str):
                self.unusable("text", read_asks, SHOP, text)
                self.unusable("text", read_program, SHOP, text)
        for asks in NOT_TUPLES + (((1, 3), (0, 2)), ((2, 0),), ((0,),), ((0, True),)):
            self.unusable("asks", asks_line, SHOP, asks)
        for program in NOT_TUPLES + ((), (("own", 0, 0), ("here", 0, 0)), (("here", 0, 0),), [("here", 0, 0)] * 2):
            self.unusable("program", program_line, SHOP, program)


class Objects(Case):

    def test_by_the_functions(self):
        for run in some_runs(60, 622):
            made = Run(*run)
            house, grain, waits, stamps, asks, news = run
            self.same(made.history(), stamp_run(*run))
            self.same(made.due(), due_run(*run[:5]))
            self.same(made.spoilt(), spoilt_deeds(*run))
            self.same(made.told(), run)
            self.same(made.verdict()[0], verdict_of(house, grain, stamp_run(*run))[0])
            for place in range(len(house[0])):
                self.same(made.cut(place, 7), cut_of(house, grain, waits, stamps, asks, place, 7))

    def test_equality(self):
        made = Run(*SIX)
        self.assertTrue(made == Run(*SIX))
        self.assertFalse(made != Run(*SIX))
        others = [with_item(SIX, 0, with_item(SHOP, 1, ("lot",))), with_item(SIX, 1, 1), with_item(SIX, 2, (1, 1)),
                  with_item(SIX, 3, (0, 1)), with_item(SIX, 4, ((0, 0), (1, 4))), with_item(SIX, 5, ((0, 4), (3, 0)))]
        for other in [Run(*six) for six in others] + [SIX, None, True, 0, ""]:
            self.assertFalse(made == other)
            self.assertTrue(made != other)

    def test_wrong(self):
        for house in NOT_TUPLES + ((), SHOP[:3], list(SHOP)):
            self.unusable("house", Run, house, None, None, None, None, None)
        for grain in NOT_INTEGERS + (0, -1):
            self.unusable("grain", Run, *with_item(SIX, 1, grain))
        for value in NOT_NUMBERS:
            self.unusable("waits", Run, *with_item(SIX, 2, (0, value)))
        for value in NOT_INTEGERS:
            self.unusable("stamps", Run, *with_item(SIX, 3, (0, value)))
        for at, word in ((1, "grain"), (2, "waits"), (3, "stamps"), (4, "asks"), (5, "news")):
            self.unusable(word, Run, *SIX[:at], *(None for _ in range(6 - at)))
        made = Run(*SIX)
        self.unusable("place", made.cut, 2, None)
        self.unusable("moment", made.cut, 1, -1)

    def test_a_house_with_several_places(self):
        run = (POST, 1, (0, 3, 2, 0), (0, 0, -1, 0), POST_ASKS, POST_NEWS)
        self.same(Run(*run).history(), slow_run(*run))
        self.same(Run(*run).spoilt(), spoilt_deeds(*run))
        source = chance(623)
        asks = some_asks(source, CLUB, 40, 25)
        run = (CLUB, 2, (1, 3, 0, 2), (0, 2, -2, 1), asks, some_news(source, CLUB, 2, asks, 0.3))
        self.same(Run(*run).due(), slow_due(*run[:5]))
