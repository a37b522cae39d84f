"""Each example of the document, as it is printed there."""

import doctest
import importlib
import pathlib

from bestunmoved.errors import UnmovedError
from tests.helpers import RING3, SHOP, Case
from tests.slowdays import FERRY, LEAST, NONE
from tests.slowdeeds import MET, MISSED

ONES = ((0, 1, 1), (1, 0, 1), (1, 1, 0))
PLAN = (((2, 0), (2, 0), 5), ((0, 2), (0, 0), None))
HOP = ((0, 3, 1), (None, 0, None), (None, 1, 0))

EXAMPLES = [
    ("kinds", "is_lot(3, (0, 2)), is_lot(3, (0, 3)), is_order(0, ())", "(True, False, True)"),
    ("dutykinds", "counter_duties((5, 2)), lag_duties((1, 2), (0, 4))", "(((0, None), (None, 0)), ((0, 5), (2, 0)))"),
    ("houses", 'house_of(((0, 1, 9), (None, 0, 2), (None, None, 0)), ("lot",), ((2, (), (0, 0)), (0, (0,), ())), '
               '((0, None), (3, 0)))',
     "(((0, 1, 3), (None, 0, 2), (None, None, 0)), ('lot',), ((2, (), (0,)), (0, (0,), ())), ((0, None), (3, 0)))"),
    ("sights", "sees(SHOP, 0, 1), shared_books(SHOP, 1, 0), hears(SHOP, 0, 1), hears(SHOP, 1, 1)",
     "(False, (0,), 2, 0)"),
    ("housechanges", "with_door(SHOP, 0, (), (0,), (None, 0), (1, None))[3]", "((0, 0, 1), (0, 0, None), (None, 0, 0))"),
    ("partedhouses", "kept_house(SHOP, (1,))[2], renamed_house(SHOP, (1, 0))[2]",
     "(((1, (), (0,)),), ((1, (), (0,)), (0, (0,), ())))"),
    ("housetexts", "house_line(SHOP)",
     "'places 2 0 2 2 0 books row doors 2 0 writes 0 looks 1 writes looks 0 duties 0 0 0 0'"),
    ("housereadings", 'read_house("places 1 0 books doors 1 0 writes looks")', "InvalidText(0, 9)"),
    ("tables", "table_of(SHOP)", "((0, 0), (2, 0))"),
    ("tables", "[entry_word(SHOP, 1, 0), entry_word(SHOP, 0, 1)]", "['sight', 'duty']"),
    ("tables", "kept_table(RING3, (0, 2))", "((0, None), (2, 0))"),
    ("tables", "is_table(((0,),))", "True"),
    ("rings", "[is_ring(RING3, (1, 2, 0)), is_ring(RING3, (0, 2, 1))]", "[True, False]"),
    ("rings", "worth_of(RING3, (1, 2, 0))", "6"),
    ("rings", "slack_of(RING3, (1, 2, 0), (0, 1, 2))", "-3"),
    ("judging", "[is_kept(RING3, (2, 2, 2)), is_kept(RING3, (2, 2, 1))]", "[True, False]"),
    ("stamps", "least_stamps(RING3, (2, 2, 2))", "(0, 1, 0)"),
    ("stamps", "lets_stamps(RING3, (2, 2, 2), (0, 1, 0))", "(2, 1, 2)"),
    ("stamps", "lets_stamps(RING3, (2, 2, 2), (0, 0, 0))", "InvalidPaper('pair', 1)"),
    ("arcs", "ahead_word(SHOP, 2, (1, 0), (0, 0), (1, 3))", "'duty'"),
    ("arcs", "ahead_word(SHOP, 2, (1, 0), (1, 3), (0, 0))", "'sight'"),
    ("ringchecker", "lets_ring(((0, 0), (2, 0)), 2, (1, 0), ((0, 0), (1, 3)))", "(0, 1)"),
    ("coarse", "[is_kept_at(RING3, 1, (2, 1, 1)), is_kept_at(RING3, 1, (1, 1, 1))]", "[True, False]"),
    ("coarse", "least_barred(RING3, (2, 1, 1))", "2"),
    ("coarse", "coarse_stamps(RING3, 1, (2, 1, 1))", "(1, 2, 0)"),
    ("rooms", "[room_of(RING3, (2, 2, 2), 0, 1), room_of(RING3, (2, 2, 2), 1, 0)]", "[3, 1]"),
    ("rooms", "room_table(RING3, (2, 2, 3))", "((0, 4, 3), (1, 0, 2), (3, 4, 0))"),
    ("leastwaits", "least_wait(RING3, (2, 2, 9), 2)", "2"),
    ("leastwaits", "lowered(RING3, (2, 2, 3), (0, 1, 2))", "(1, 2, 3)"),
    ("leastwaits", "[is_bare(RING3, (1, 2, 3)), is_bare(RING3, (2, 2, 3))]", "[True, False]"),
    ("judgeclasses", "Judge(SHOP, (3, 0)).bare((1, 0)).told()[1]", "(2, 0)"),
    ("dealings", "least_cost(RING3, (2, 1, 3))", "6"),
    ("dealchecker", "lets_deal(RING3, (1, 1, 1), ((3, 1, 2), (0, 0, 0), ((0, 1, 0), (0, 0, 1), (1, 0, 0))))", "6"),
    ("permutations", "moving_worth(RING3, (0, 1)), within_worth(RING3, (0, 1)), diagonal_worth(RING3, (3, 0, 1))",
     "(None, 0, 6)"),
    ("ringlists", "list(all_rings(((0, 1, 1), (1, 0, 1), (1, 1, 0))))", "[(0, 1), (0, 1, 2), (0, 2), (0, 2, 1), (1, 2)]"),
    ("means", "dearest_mean(RING3), even_wait(RING3)", "((2, 1), 2)"),
    ("laters", "later_by(SHOP, (1, 2)), way_room(SHOP, (1, 2), 1, 0), uses_of(SHOP, (1, 0), 0, 1)", "(1, None, 1)"),
    ("uniform", "uniform_waits(SHOP, (1, 3))", "(2, 0)"),
    ("sharplots", "sharp_lots(ONES)", "(((0, 1), 2), ((0, 2), 2), ((1, 2), 2))"),
    ("sharpchecker", "lets_cover(ONES, (0, 1, 2), (2, (((0, 1), 1), ((0, 2), 1), ((1, 2), 1))))", "6"),
    ("historykinds", "first_fault(SHOP, ((0, 0, 2, ()), (1, 3, 3, ((0, 0, 1),))))", "(1, 0, 'writes')"),
    ("historychecker", "lets_history(SHOP, MET)", "2"),
    ("forced", "forced_words(SHOP, 2, MET, 0, 1)", "('shown', 'duty')"),
    ("forced", "forced_pairs(SHOP, 2, MISSED)", "((0, 1), (1, 0))"),
    ("orders", "order_of(SHOP, 1, ((0, 0, 3, ()), (0, 2, 3, ()), (1, 5, 5, ((1, 0),))))", "(1, 0, 2)"),
    ("orders", "sorted(deed_ring(SHOP, 2, MISSED))", "[0, 1]"),
    ("verdicts", "verdict_of(SHOP, 2, ((1, 0, 0, ((1,),)),))", "('fault', 0, 0, 'none')"),
    ("verdictchecker", 'lets_verdict(SHOP, 2, MISSED, ("ring", (0, 1)))', "'ring'"),
    ("verdictchecker", 'lets_verdict(SHOP, 2, MET, ("order", (1, 0)))', "InvalidPaper('ahead', 1)"),
    ("dues", "due_history(SHOP, ((0, 0, 2), (1, 3, 3)), (1, 0)) == MISSED", "True"),
    ("dues", "late_deeds(SHOP, 2, (0, 0), MET)", "(0,)"),
    ("historychanges", "history_kept(SHOP, MISSED, (1,))", "((0, 3, 3, ((),)),)"),
    ("historychanges", "renumbered(SHOP, MET, (1, 0))", "((1, 3, 3, ((1,),)), (0, 0, 2, ()))"),
    ("historytexts", "history_line(SHOP, MET)", "'0 0 2; 1 3 3 0'"),
    ("historytexts", 'read_history(SHOP, "0 0 2; 1 3 3")', "InvalidText(1, 3)"),
    ("historyclasses", "History(SHOP, 2, MET).kept((0,)).told()[2]", "((0, 0, 2, ()),)"),
    ("stampruns", "stamp_run(SHOP, 2, (1, 0), (0, 0), ((0, 0), (1, 3)), ((0, 4), (4, 0)))",
     "((0, 0, 2, ()), (1, 3, 3, ((),)))"),
    ("programs", 'program_run(SHOP, 1, (("here", 0, 0), ("known", 0, 5)), ((0, 0), (0, 1), (1, 4)), '
                 '((0, 4), (0, 1), (3, 0)))', "((0, 0, 0, ()), (0, 1, 1, ()), (1, 4, 4, ((1, 0),)))"),
    ("breaking", 'lets_break(SHOP, (("stamp", 1, 0), ("known", 0, 0)), '
                 '(((0, 0), (1, 3)), ((0, 0, 2, ()), (1, 3, 3, ((),))), (0, 1)))', "(0, 1)"),
    ("spoils", "spoilt_deeds(SHOP, 2, (1, 0), (0, 0), ((0, 0), (1, 3)), ((0, 4), (4, 0)))", "(1,)"),
    ("folds", "cut_of(SHOP, 2, (0, 2), (0, 0), ((0, 0), (1, 3)), 1, 5)", "2"),
    ("folds", "fold_of(SHOP, 2, (0, 2), (0, 0), ((0, 0), (1, 3)), ((0, 4), (4, 0)), 1, 5)", "(((0,),), ())"),
    ("runtexts", "asks_line(SHOP, ((0, 0), (1, 3)))", "'0 0; 1 3'"),
    ("runtexts", 'program_line(SHOP, (("stamp", 2, -1), ("known", 0, 0)))', "'stamp 2 -1; known 0 0'"),
    ("dayhouses", "dayhouse_of(4, (((0, 0, 0, 0), (3, 2, 1, 4)), ((2, 2, 2, 2), (0, 0, 0, 0))), ('row',), "
                  "((0, (0,), ()), (1, (), (0,))), ((0, 0), (0, 0)))", repr(FERRY)),
    ("delays", "ship_delays(4, ((2, 1),))", "(3, 2, 1, 4)"),
    ("delays", "closed_delays(2, (((0, 0), (1, 2), None), (None, (0, 0), (3, 2)), (None, None, (0, 0))))[0]",
     "((0, 0), (1, 2), (3, 4))"),
    ("delays", "coming((3, 2, 1, 4), -1)", "3"),
    ("dayarcs", "day_word(FERRY, NONE, (1, 1), (0, 0))", "'sight'"),
    ("dayarcs", "first_ahead(FERRY, NONE, (1, 1), 0)", "-1"),
    ("dayjudge", "(day_kept(FERRY, NONE), day_kept(FERRY, LEAST))", "(False, True)"),
    ("daypapers", "lets_day_ring(FERRY, NONE, ((0, 0), (1, 1)))", "(0, 1)"),
    ("daypapers", "lets_day_stamps(FERRY, LEAST, ((0, 0, 0, 0), (0, 0, 0, -1)))", "((0, 0, 0, 0), (0, 0, 0, -1))"),
    ("leastrows", "least_row(FERRY, NONE, 1)", "(3, 2, 1, 0)"),
    ("dayruns", "day_run(FERRY, LEAST, NONE, ((0, 0), (1, 1)), ((0, 3), (2, 0)))",
     "((0, 0, 0, ()), (1, 1, 3, ((0,),)))"),
    ("daytexts", "rows_line(FERRY, LEAST)", "'0 0 0 0; 3 2 1 0'"),
    ("partings", "(parts_of((0, 1, 0)), parting_by(3, ((1,), (0, 2))))", "(((0, 2), (1,)), (0, 1, 0))"),
    ("partlaw", "(is_safe(HOP, (0, 0, 2)), is_safe(HOP, (0, 1, 2)))", "(False, True)"),
    ("partchecker", "lets_unsafe(HOP, (0, 0, 2), ((0, 1), (2, 2)))", "(3, 2)"),
    ("joining", "joined_order(HOP, 3, (0, 0, 2), ((0, 0, 0), (1, 9, 9), (2, 4, 4)), ((0, 1), (2,)))", "(0, 2, 1)"),
    ("pairings", "(cheapest_pairing(HOP, (0, 2), (1, 2)), inner_pairing(HOP, (0, 0, 2), (0, 2), (1, 2)))",
     "((1, 0), (0, 1))"),
    ("gains", "gains_of(RING3, (1, 2, 3), (0, 1))", "((-1, 0), (-3, -2))"),
    ("gains", "linked_gains(((-1, 0), (-3, -2)), ((0,),), ((None,), (0,)), ((2, None),))",
     "((-1, 0, 0), (-3, -2, -2), (-3, -2, 0))"),
    ("plans", "changes_of(((0, 0), (2, 0)), 1, PLAN)", "((3, 5),)"),
    ("plans", "answer_of(((0, 0), (2, 0)), 1, PLAN, 0, 4)", "5"),
    ("eventtexts", "log_text((('ask', 0), ('wait', 3), ('come', 2, 1), ('hold', 2, 1)))",
     repr("ask 0\nwait 3\ncome 2 1\nhold 2 1")),
    ("eventtexts", "event_line(('change', 0, (2, 1), (0, -1), 12))", "'change 0 waits 2 1 stamps 0 -1 limit 12'"),
    ("desk", "desk_line(LiveHouse(SHOP, 1, (0, 2), (0, 0)), 'plan')", "'waits 0 2 stamps 0 0 limit -'"),
]


class Examples(Case):

    def test_each(self):
        for module, code, printed in EXAMPLES:
            names = dict(vars(importlib.import_module("bestunmoved." + module)), SHOP=SHOP, RING3=RING3, ONES=ONES,
                         MET=MET, MISSED=MISSED, FERRY=FERRY, NONE=NONE, LEAST=LEAST, HOP=HOP,
                         PLAN=PLAN)
            try:
                got = repr(eval(code, names))
            except UnmovedError as raised:
                got = "%s(%s)" % (raised.__class__.__name__, ", ".join(map(repr, vars(raised).values())))
            self.assertEqual(got, printed, code)

    def test_readme(self):
        readme = pathlib.Path(__file__).resolve().parent.parent / "README.md"
        failed, tried = doctest.testfile(str(readme), module_relative=False)
        self.assertEqual(failed, 0)
        self.assertGreater(tried, 8)
