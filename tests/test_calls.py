"""How everything is called: [2] and [12].

Each function is called by position and by name, twice; with each parameter that is not as stated, and with two.
"""

import copy
import importlib
import inspect
import itertools

from bestunmoved.errors import Barred, Misshown
from tests.helpers import LONE, NOT_INTEGERS, NOT_NUMBERS, NOT_SPANS, NOT_TUPLES, RING3, SHOP, Case, with_item, with_part
from tests.slowdays import FERRY

FAR = (((0, 1, 3), (1, 0, 2), (None, None, 0)), ("row", "lot"), ((0, (0,), (0,)), (1, (1,), (0,)), (2, (), (0, 1))),
       ((0, 1, None), (2, 0, 3), (4, None, 0)))

NUMBER = NOT_NUMBERS
GRAIN = NOT_NUMBERS + (0,)
PLACE = DOOR = NOT_NUMBERS + (3, 10 ** 30)
BOOKS = NOT_TUPLES + ((2,), (1, 0), (0, 0), (True,), (None,), (-1,), ("0",), ((0,),), (0, 1, 1))
LOT = NOT_TUPLES + ((3,), (1, 0), (0, 0), (0, True), (False,), (None,), (-1,), ("0",), ((0,),), (0, 1, 2, 3))
FULL = LOT + ((),)
ORDER = NOT_TUPLES + ((), (0, 1), (0, 1, 1), (0, 1, 2, 3), (1, 2, 3), (0, True, 2), (False, 1, 2), (0, None, 2),
                      ("0", 1, 2), (0, -1, 2), ((0,), 1, 2), ([], [], []), [2, 1, 0])
SHORT_OR_LONG = NOT_TUPLES + ((), (0,), (2, 2), (2, 2, 2, 2), [2, 2, 2], ((2, 2, 2),))
WAITS = SHORT_OR_LONG + tuple(with_item((2, 2, 2), k % 3, value) for k, value in enumerate(NOT_NUMBERS))
STAMPS = SHORT_OR_LONG + tuple(with_item((2, 2, 2), k % 3, value) for k, value in enumerate(NOT_INTEGERS))
SPANS = SHORT_OR_LONG + tuple(with_item((2, None, 2), k % 3, value) for k, value in enumerate(NOT_SPANS))
DUTIES = NOT_TUPLES + ((), ((0,),), ((0, 0),) * 2, ((0, 0, 0),) * 4, ((0, 0, 0), (0, 0, 0), (0, 0)),
                       ((0, 0, 0), (0, 1, 0), (0, 0, 0)), ((0, 0, 0), (0, 0, 0), [0, 0, 0]),
                       ((0, 0, 0), (0, None, 0), (0, 0, 0)), ((0, 0, True), (0, 0, 0), (0, 0, 0)),
                       ((0, 0, -1), (0, 0, 0), (0, 0, 0)))
RING = NOT_TUPLES + ((), (0,), (0, 1), (0, 2, 1), (0, 1, 2, 0), (0, 1, 3), (0, True, 2), [0, 1, 2], ((0, 1, 2),))
MOMENT = NOT_TUPLES + ((), (0,), (0, 0, 0), [0, 0], (3, 0), (-1, 0), (True, 0), (0, True), (0, None), (None, 0),
                       (0, "0"), (0, (0,)))
HOUSE = NOT_TUPLES + ((), SHOP[:3], SHOP + (0,), list(SHOP), with_item(SHOP, 0, ((0, None), (2, 0))),
                      with_item(SHOP, 0, ((0, True), (2, 0))), with_item(SHOP, 2, ()), with_item(SHOP, 3, ((0, 0),)))
DEALING = NOT_TUPLES + ((), ((0, 0, 0),) * 2, ((0, 0, 0),) * 4, ((0, 0),) * 3, ((0, 1, 0), (1, 0, 0), (0, 0, 0)),
                        ((0, 1, 0), (0, 0, True), (0, 0, 0)), ((0, 1, 0), (0, 0, -1), (0, 0, 0)),
                        [(0, 0, 0)] * 3, ((0, 0, 0), (0, 0, 0), [0, 0, 0]))
PAIR_LOT = LOT + ((), (0,), (1,), (0, 1), (0, 2), (1, 2))
TABLE = NOT_TUPLES + ((), ((0,),), ((0, 0),) * 2, ((0, 0, 0),) * 4, ((0, 0, 0), (0, 1, 0), (0, 0, 0)),
                      ((0, 0, True), (0, 0, 0), (0, 0, 0)), [(0, 0, 0)] * 3, ((0, 0, 0), (0, 0, 0), [0, 0, 0]))
UNIFORM = (((0, 4, 4), (4, 0, 4), (4, 4, 0)),) + FAR[1:3] + (((0, 0, 0),) * 3,)
DEEDS = ((0, 0, 1), (1, 1, 2), (2, 5, 6))
RUN = ((0, 0, 1, ((),)), (1, 1, 2, ((0,),)), (2, 5, 6, ((0,), (1,))))
NOT_DEEDS = NOT_TUPLES + (list(DEEDS), with_item(DEEDS, 0, (0, 0)), with_item(DEEDS, 1, [1, 1, 2]),
                          with_item(DEEDS, 2, (3, 5, 6)), with_item(DEEDS, 2, (2, 5, 4)), with_item(DEEDS, 1, (1, True, 2)))
HISTORY = NOT_TUPLES + (list(RUN), DEEDS, with_item(RUN, 0, (0, 0, 1, ())), with_item(RUN, 1, (1, 1, 2, ((True,),))),
                        with_item(RUN, 2, (2, 5, 6, ((0,), (1, 0)))), with_item(RUN, 2, (2, 5, 4, ((0,), (1,)))),
                        with_item(RUN, 2, (3, 5, 6, ((0,), (1,)))))
# Faults: its first deed shows itself, and then others do.
FAULTY = ((0, 0, 1, ((0,),)), (1, 1, 2, ((7,),)), (2, 5, 6, ((1,), (1,))))
ASKS = ((0, 0), (1, 1), (2, 5))
NEWS = ((0, 1, 3), (2, 0, 2), (None, None, 0))
NOT_ASKS = NOT_TUPLES + (list(ASKS), ASKS[::-1], with_item(ASKS, 1, (3, 1)), with_item(ASKS, 1, (1, True)),
                         with_item(ASKS, 2, (2,)), with_item(ASKS, 0, (0, -1)), with_item(ASKS, 0, [0, 0]))
NOT_NEWS = NOT_TUPLES + ((), NEWS[:2], list(NEWS), with_item(NEWS, 0, (1, 1, 3)), with_item(NEWS, 1, (2, 0)),
                         with_item(NEWS, 1, (None, 0, 2)), with_item(NEWS, 2, (0, None, 0)), with_item(NEWS, 1, (True, 0, 2)))
PROGRAM = (("stamp", 1, -1), ("known", 0, 0), ("here", 2, 5))
NOT_PROGRAM = NOT_TUPLES + ((), PROGRAM[:2], list(PROGRAM), with_item(PROGRAM, 0, ("own", 1, 0)),
                            with_item(PROGRAM, 1, ("known", -1, 0)), with_item(PROGRAM, 2, ("here", 0, None)),
                            with_item(PROGRAM, 2, ("here", True, 0)), with_item(PROGRAM, 2, ("here", 0)))
RUNNING = {"house": FAR, "grain": 2, "waits": (1, 2, 0), "stamps": (0, -1, 1), "asks": ASKS, "news": NEWS}
NOT_RUNNING = {"grain": GRAIN, "waits": WAITS, "stamps": STAMPS, "asks": NOT_ASKS, "news": NOT_NEWS}
STANDING = {word: value for word, value in RUNNING.items() if word not in ("waits", "news")}
NOT_STANDING = {word: value for word, value in NOT_RUNNING.items() if word not in ("waits", "news")}
DUE = {word: value for word, value in RUNNING.items() if word != "news"}
NOT_DUE = {word: value for word, value in NOT_RUNNING.items() if word != "news"}
BREAKING = (("stamp", 0, 0), ("known", 0, 0), ("here", 0, 5))
DAYFAR = (2, tuple(tuple(None if way is None else (way, way + 1) for way in row) for row in FAR[0])) + FAR[1:]
DAYFAR = with_part(with_part(with_part(DAYFAR, (1, 0, 0), (0, 0)), (1, 1, 1), (0, 0)), (1, 2, 2), (0, 0))
DAYROWS = ((1, 2), (0, 3), (4, 4))
NOT_DAYROWS = NOT_TUPLES + ((), DAYROWS[:2], DAYROWS + ((0, 0),), list(DAYROWS), with_item(DAYROWS, 0, (1,)),
                            with_item(DAYROWS, 1, (0, 3, 3)), with_item(DAYROWS, 1, [0, 3]), with_item(DAYROWS, 2, None),
                            with_item(DAYROWS, 2, (4, -1)), with_item(DAYROWS, 0, (True, 2)), with_item(DAYROWS, 0, (None, 2)))
DAYSTAMPS = ((1, -2), (0, 3), (-4, 4))
NOT_DAYSTAMPS = tuple(value for value in NOT_DAYROWS if value != with_item(DAYROWS, 2, (4, -1)))
HOUR = NOT_INTEGERS
STEP = MOMENT
DAYRUN = {"dayhouse": DAYFAR, "dayrows": DAYROWS, "stamps": DAYSTAMPS, "asks": ASKS, "news": NEWS}
NOT_DAYRUN = {"dayrows": NOT_DAYROWS, "stamps": NOT_DAYSTAMPS, "asks": NOT_ASKS, "news": NOT_NEWS}
HOP = ((0, 3, 1), (None, 0, None), (None, 1, 0))
PARTING = NOT_TUPLES + ((), (0, 0), (0, 0, 0, 0), (1, 1, 1), (0, 0, 1), (0, 2, 2), (0, 1, 3), (0, 1, -1), (0, True, 0),
                        (False, 0, 0), (0, None, 0), [0, 0, 2], ((0, 0, 2),))
JOINING = ((0, 0, 0), (1, 9, 9), (2, 4, 4))
NOT_JOINING = NOT_TUPLES + (list(JOINING), with_item(JOINING, 0, (0, 0)), with_item(JOINING, 1, [1, 9, 9]),
                            with_item(JOINING, 2, (3, 5, 6)), with_item(JOINING, 2, (2, 5, 4)),
                            with_item(JOINING, 1, (1, True, 2)), with_item(JOINING, 1, (1, -1, 2)))
ENDS = NOT_TUPLES + ((3,), (0, 3), (-1,), (True,), (0, None), [0, 1], ((0,),), ("0",))
BEGINS = ENDS + ((), (0,), (0, 1, 2))
GAINS = ((-1, 0), (None, -2))
LINKS = NOT_TUPLES + ((), ((0, 1),), ((0, 1),) * 3, ((0,), (1,)), ((0, 1, 2),) * 2, [(0, 1), (1, 0)], ((0, 1), [1, 0]),
                      ((0, -1), (1, 0)), ((0, True), (1, 0)), ((0, "0"), (1, 0)), (0, 1))
OUTER = FULL
FARTABLE = ((0, -1, None), (1, 0, -3), (3, 2, 0))
PLAN = (((9, 9, 9), (0, 0, 0), 5), ((9, 8, 9), (1, 0, 0), None))
NOT_PLAN = NOT_TUPLES + ((), PLAN[:1], list(PLAN), PLAN + PLAN[1:], with_part(PLAN, (0,), PLAN[0][:2]),
                         with_part(PLAN, (0, 0), (9, 9)), with_part(PLAN, (0, 0, 1), -1), with_part(PLAN, (1, 0, 1), True),
                         with_part(PLAN, (0, 1), (0, 0)), with_part(PLAN, (1, 1, 0), 11), with_part(PLAN, (1, 1, 2), None),
                         with_part(PLAN, (0, 2), None), with_part(PLAN, (1, 2), 5), with_part(PLAN, (0, 2), "5"),
                         PLAN[:1] + (((9, 9, 9), (0, 0, 1), 6), PLAN[1]), with_item(PLAN, 1, list(PLAN[1])))
MOMENTS = NOT_INTEGERS
PLANNED = {"table": FARTABLE, "grain": 2, "plan": PLAN}
NOT_PLANNED = {"grain": GRAIN, "plan": NOT_PLAN}
PLANRUN = {"house": FAR, "grain": 2, "plan": PLAN, "asks": ASKS, "news": NEWS}
NOT_PLANRUN = {"grain": GRAIN, "plan": NOT_PLAN, "asks": NOT_ASKS, "news": NOT_NEWS}
OPEN_NEWS = ((0, None, 3), (2, 0, None), (None, None, 0))
NOT_OPEN_NEWS = NOT_TUPLES + ((), OPEN_NEWS[:2], list(OPEN_NEWS), with_part(OPEN_NEWS, (0, 0), 1),
                              with_part(OPEN_NEWS, (0, 0), None), with_item(OPEN_NEWS, 1, (2, 0)),
                              with_part(OPEN_NEWS, (2, 0), 0), with_part(OPEN_NEWS, (1, 0), True),
                              with_part(OPEN_NEWS, (1, 0), -1), with_item(OPEN_NEWS, 1, [2, 0, None]))
HELD = NOT_TUPLES + ([(0, 1)], ((0, 1), (0, 1)), ((1, 2), (0, 1)), ((0, 3),), ((3, 0),), ((0,),), ([0, 1],), ((0, True),),
                     ((0, -1),), ((None, 1),), ((0, 1, 1),), (0, 1))
LOG = (("ask", 0), ("wait", 3), ("come", 0, 1), ("change", 0, (9, 9, 9), (0, 0, 0), 50))
NOT_EVENTS = NOT_TUPLES + ((), ("ask",), ("ask", 0, 0), ("asks", 0), ("ask", True), ("ask", -1), ["ask", 0], ("wait", 0),
                           ("wait", True), ("wait", None), ("come", 0), ("come", 0, -1), ("hold", True, 0), ("hold", 0),
                           ("change", 0, (1,), (0,)), ("change", -1, (1,), (0,), 5), ("change", 0, [1], (0,), 5),
                           ("change", 0, (-1,), (0,), 5), ("change", 0, (1,), (True,), 5), ("change", 0, (1,), (0,), None),
                           ("change", 0, (1,), [0], 5), ("change", 0, (1,), (0,), False), (0, "ask"), ("", 0), (None, 0))
NOT_LOG = tuple(value for value in NOT_TUPLES + (list(LOG), LOG[0]) + tuple((value,) for value in NOT_EVENTS))
TEXT = tuple(value for value in NOT_TUPLES if not isinstance(value, str)) + ((), ("places",), (0,))

# Module, name, arguments by name in sequence; wrong values of the parameters that are asked.
CALLS = [
    ("kinds", "is_integer", {"thing": 3}, {}),
    ("kinds", "is_number", {"thing": 3}, {}),
    ("kinds", "is_lot", {"size": 3, "thing": (0, 2)}, {}),
    ("kinds", "is_order", {"size": 3, "thing": (0, 2, 1)}, {}),
    ("kinds", "is_ways", {"thing": FAR[0]}, {}),
    ("kinds", "is_house", {"thing": FAR}, {}),
    ("dutykinds", "is_duties", {"size": 3, "thing": FAR[3]}, {}),
    ("dutykinds", "free_duties", {"size": 3}, {}),
    ("dutykinds", "prompt_duties", {"size": 3}, {}),
    ("dutykinds", "counter_duties", {"places": (1, 2, 1)}, {}),
    ("dutykinds", "lag_duties", {"starts": (1, 2, 1), "ends": (0, 1, 2)}, {"ends": WAITS}),
    ("housechecker", "lets_house", {"thing": FAR}, {}),
    ("houses", "house_of", {"ways": FAR[0], "books": FAR[1], "doors": FAR[2], "duties": FAR[3]},
     {"ways": NOT_TUPLES + ((),), "books": NOT_TUPLES + (("row", 0),), "doors": NOT_TUPLES + ((),), "duties": DUTIES}),
    ("ways", "closed_ways", {"ways": ((0, 1, 9), (None, 0, 2), (None, None, 0))}, {}),
    ("ways", "way_of", {"house": FAR, "here": 0, "there": 2}, {"here": PLACE, "there": PLACE}),
    ("sights", "sees", {"house": FAR, "door": 2, "other": 1}, {"door": DOOR, "other": DOOR}),
    ("sights", "shared_books", {"house": FAR, "door": 2, "other": 1}, {"door": DOOR, "other": DOOR}),
    ("sights", "hears", {"house": FAR, "door": 2, "other": 1}, {"door": DOOR, "other": DOOR}),
    ("sights", "sight_pairs", {"house": FAR}, {}),
    ("sights", "far_pairs", {"house": FAR}, {}),
    ("sights", "doors_at", {"house": FAR, "place": 2}, {"place": PLACE}),
    ("sights", "seen_at", {"house": FAR, "place": 2}, {"place": PLACE}),
    ("housechanges", "later_house", {"house": FAR, "units": 2}, {"units": NUMBER}),
    ("housechanges", "lengthened", {"house": FAR, "here": 1, "there": 2, "units": 1},
     {"here": PLACE, "there": PLACE + (1,), "units": NUMBER + (3,)}),
    ("housechanges", "with_duties", {"house": FAR, "duties": ((0, 0, 0),) * 3}, {"duties": DUTIES}),
    ("housechanges", "with_door",
     {"house": FAR, "place": 2, "writes": (1,), "looks": (0, 1), "out": (0, 1, None), "back": (None, 0, 1)},
     {"place": PLACE, "writes": BOOKS, "looks": BOOKS, "out": SPANS, "back": SPANS}),
    ("partedhouses", "kept_house", {"house": FAR, "lot": (0, 2)}, {"lot": FULL}),
    ("partedhouses", "renamed_house", {"house": FAR, "order": (2, 0, 1)}, {"order": ORDER}),
    ("partedhouses", "beside_house", {"house": FAR, "other": SHOP, "across": 4}, {"other": HOUSE, "across": NOT_SPANS}),
    ("housetexts", "house_line", {"house": FAR}, {}),
    ("housereadings", "read_house", {"text": "places 1 0 books doors 1 0 writes looks duties 0"}, {"text": TEXT}),
    ("tables", "is_table", {"thing": RING3}, {}),
    ("tables", "table_of", {"house": FAR}, {}),
    ("tables", "entry_word", {"house": FAR, "door": 2, "other": 1}, {"door": DOOR, "other": DOOR + (2,)}),
    ("tables", "kept_table", {"table": RING3, "lot": (0, 2)}, {"lot": FULL}),
    ("tables", "scaled", {"table": RING3, "scale": 2}, {"scale": GRAIN}),
    ("rings", "is_ring", {"table": RING3, "thing": (1, 2, 0)}, {}),
    ("rings", "worth_of", {"table": RING3, "ring": (1, 2, 0)}, {"ring": RING}),
    ("rings", "slack_of", {"table": RING3, "waits": (1, 2, 0), "ring": (1, 2, 0)}, {"waits": WAITS, "ring": RING}),
    ("judging", "is_kept", {"table": RING3, "waits": (2, 2, 2)}, {"waits": WAITS}),
    ("judging", "barring_doors", {"table": RING3, "waits": (2, 2, 1)}, {"waits": WAITS}),
    ("stamps", "suits", {"table": RING3, "waits": (2, 2, 2), "stamps": (0, 1, 0)}, {"waits": WAITS, "stamps": STAMPS}),
    ("stamps", "least_stamps", {"table": RING3, "waits": (2, 2, 2)}, {"waits": WAITS}),
    ("stamps", "lets_stamps", {"table": RING3, "waits": (2, 2, 2), "thing": (0, 1, 0)}, {"waits": WAITS}),
    ("arcs", "ahead_word", {"house": FAR, "grain": 2, "waits": (1, 2, 0), "moment": (1, -3), "other": (0, 9)},
     {"grain": GRAIN, "waits": WAITS, "moment": MOMENT, "other": MOMENT}),
    ("ringpapers", "ring_paper", {"table": RING3, "grain": 2, "waits": (2, 1, 0)}, {"grain": GRAIN, "waits": WAITS}),
    ("ringchecker", "lets_ring", {"table": RING3, "grain": 1, "waits": (1, 1, 1), "thing": ((0, 1), (1, 0), (2, 1))},
     {"grain": GRAIN, "waits": WAITS}),
    ("coarse", "is_kept_at", {"table": RING3, "grain": 2, "waits": (2, 2, 2)}, {"grain": GRAIN, "waits": WAITS}),
    ("coarse", "least_barred", {"table": RING3, "waits": (2, 1, 1)}, {"waits": WAITS}),
    ("coarse", "coarse_stamps", {"table": RING3, "grain": 1, "waits": (2, 1, 1)}, {"grain": GRAIN, "waits": WAITS}),
    ("coarse", "lets_coarse", {"table": RING3, "grain": 1, "waits": (2, 1, 1), "thing": (1, 2, 0)},
     {"grain": GRAIN, "waits": WAITS}),
    ("rooms", "room_of", {"table": RING3, "waits": (2, 2, 2), "door": 1, "other": 0},
     {"waits": WAITS, "door": DOOR, "other": DOOR + (1,)}),
    ("rooms", "room_table", {"table": RING3, "waits": (2, 2, 3)}, {"waits": WAITS}),
    ("rooms", "tight_ring", {"table": RING3, "waits": (2, 2, 2), "door": 1}, {"waits": WAITS, "door": DOOR}),
    ("leastwaits", "least_wait", {"table": RING3, "waits": (2, 2, 9), "door": 2}, {"waits": WAITS, "door": DOOR}),
    ("leastwaits", "lowered", {"table": RING3, "waits": (2, 2, 3), "order": (2, 0, 1)},
     {"waits": WAITS, "order": ORDER}),
    ("leastwaits", "is_bare", {"table": RING3, "waits": (1, 2, 3)}, {"waits": WAITS}),
    ("dealings", "is_dealing", {"table": RING3, "rates": (1, 1, 1), "thing": ((1, 0, 0), (0, 1, 0), (0, 0, 1))},
     {"rates": WAITS}),
    ("dealings", "dealing_worth", {"table": RING3, "dealing": ((1, 2, 0), (0, 1, 0), (3, 0, 1))}, {"dealing": DEALING}),
    ("dealings", "dearest_dealing", {"table": RING3, "rates": (1, 2, 3)}, {"rates": WAITS}),
    ("dealings", "least_cost", {"table": RING3, "rates": (1, 2, 3)}, {"rates": WAITS}),
    ("cheapwaits", "cheapest_waits", {"table": RING3, "rates": (1, 2, 3)}, {"rates": WAITS}),
    ("cheapwaits", "cost_of", {"rates": (1, 2, 3), "waits": (3, 2, 1)}, {"waits": WAITS}),
    ("cheapwaits", "deal_paper", {"table": RING3, "rates": (1, 2, 3)}, {"rates": WAITS}),
    ("dealchecker", "lets_deal",
     {"table": RING3, "rates": (1, 1, 1), "thing": ((3, 1, 2), (0, 0, 0), ((0, 1, 0), (0, 0, 1), (1, 0, 0)))},
     {"rates": WAITS}),
    ("permutations", "permutation_worth", {"table": RING3, "lot": (0, 1, 2), "order": (1, 2, 0)},
     {"lot": LOT, "order": ORDER}),
    ("permutations", "moving_worth", {"table": RING3, "lot": (0, 1, 2)}, {"lot": LOT}),
    ("permutations", "within_worth", {"table": RING3, "lot": (0, 1)}, {"lot": LOT}),
    ("permutations", "diagonal_worth", {"table": RING3, "waits": (3, 0, 1)}, {"waits": WAITS}),
    ("ringlists", "all_rings", {"table": RING3}, {}),
    ("ringlists", "dearest_ring", {"table": RING3, "lot": (0, 1, 2)}, {"lot": LOT}),
    ("means", "dearest_mean", {"table": RING3}, {}),
    ("means", "even_wait", {"table": RING3}, {}),
    ("laters", "later_by", {"house": FAR, "waits": (9, 9, 9)}, {"waits": WAITS}),
    ("laters", "way_room", {"house": FAR, "waits": (9, 9, 9), "here": 1, "there": 2},
     {"waits": WAITS, "here": PLACE, "there": PLACE + (1,)}),
    ("laters", "uses_of", {"house": FAR, "ring": (0, 1), "here": 0, "there": 1},
     {"ring": NOT_TUPLES + ((), (0,), (0, 2), (0, 3), (0, 0), (0, 1, 0), (0, True), [0, 1], ((0, 1),)), "here": PLACE,
      "there": PLACE}),
    ("atonce", "may_at_once", {"table": RING3, "lot": (0, 2)}, {"lot": LOT}),
    ("atonce", "at_once_waits", {"table": RING3, "lot": (0, 2)}, {"lot": LOT + ((0, 1, 2),)}),
    ("atonce", "at_once_lots", {"table": RING3}, {}),
    ("uniform", "is_uniform", {"house": UNIFORM}, {}),
    ("uniform", "sight_most", {"house": FAR, "rates": (1, 2, 3)}, {"rates": WAITS}),
    ("uniform", "uniform_waits", {"house": UNIFORM, "rates": (1, 2, 3)}, {"house": (FAR,), "rates": WAITS}),
    ("sharplots", "lot_worths", {"table": RING3}, {}),
    ("sharplots", "sharp_lots", {"table": RING3}, {}),
    ("sharplots", "keeps_lots", {"table": RING3, "scale": 2, "numbers": (4, 4, 3)},
     {"scale": GRAIN, "numbers": WAITS}),
    ("sharplots", "sharp_paper", {"table": RING3, "lot": (0, 1, 2)}, {"lot": PAIR_LOT}),
    ("sharplots", "cover_paper", {"table": RING3, "lot": (0, 1, 2)}, {"lot": PAIR_LOT}),
    ("sharpchecker", "lets_sharp", {"table": RING3, "lot": (0, 1, 2), "thing": (1, (0, 5, 0))}, {"lot": PAIR_LOT}),
    ("sharpchecker", "lets_cover", {"table": ((0, 1, 0), (1, 0, 1), (0, 1, 0)), "lot": (0, 1, 2),
                                    "thing": (1, (((0, 1), 1),))}, {"lot": LOT + ((), (0,), (1,))}),
    ("alikes", "waits_alike", {"table": RING3, "other": ((0, 0, 0),) * 3}, {"other": TABLE}),
    ("alikes", "telling_waits", {"table": RING3, "other": ((0, 0, 0),) * 3}, {"other": TABLE}),
    ("historykinds", "is_deeds", {"house": FAR, "thing": DEEDS}, {}),
    ("historykinds", "is_history", {"house": FAR, "thing": RUN}, {}),
    ("historykinds", "first_fault", {"house": FAR, "history": FAULTY}, {"history": HISTORY}),
    ("historychecker", "lets_history", {"house": FAR, "thing": RUN}, {}),
    ("forced", "forced_words", {"house": FAR, "grain": 2, "history": RUN, "one": 0, "other": 2},
     {"grain": GRAIN, "history": HISTORY, "one": DOOR, "other": DOOR + (0,)}),
    ("forced", "forced_pairs", {"house": FAR, "grain": 2, "history": RUN}, {"grain": GRAIN, "history": HISTORY}),
    ("orders", "order_of", {"house": FAR, "grain": 2, "history": RUN}, {"grain": GRAIN, "history": HISTORY}),
    ("orders", "keeps_order", {"house": FAR, "grain": 2, "history": RUN, "thing": (0, 1, 2)},
     {"grain": GRAIN, "history": HISTORY}),
    ("orders", "deed_ring", {"house": FAR, "grain": 2, "history": RUN}, {"grain": GRAIN, "history": HISTORY}),
    ("verdicts", "verdict_of", {"house": FAR, "grain": 2, "history": RUN}, {"grain": GRAIN, "history": HISTORY}),
    ("verdictchecker", "lets_verdict", {"house": FAR, "grain": 2, "history": RUN, "thing": ("order", (0, 1, 2))},
     {"grain": GRAIN, "history": HISTORY}),
    ("dues", "due_history", {"house": FAR, "deeds": DEEDS, "order": (2, 0, 1)}, {"deeds": NOT_DEEDS, "order": ORDER}),
    ("dues", "late_deeds", {"house": FAR, "grain": 1, "waits": (0, 1, 0), "history": RUN},
     {"grain": GRAIN, "waits": WAITS, "history": HISTORY}),
    ("historychanges", "history_kept", {"house": FAR, "history": RUN, "lot": (0,)}, {"history": HISTORY, "lot": FULL}),
    ("historychanges", "renumbered", {"house": FAR, "history": RUN, "order": (2, 0, 1)},
     {"history": HISTORY, "order": ORDER}),
    ("historychanges", "regrained", {"house": FAR, "history": RUN, "scale": 3}, {"history": HISTORY, "scale": GRAIN}),
    ("historychanges", "later_history", {"house": FAR, "history": RUN, "beats": 3},
     {"history": HISTORY, "beats": NUMBER}),
    ("historytexts", "history_line", {"house": FAR, "history": RUN}, {"history": HISTORY}),
    ("historytexts", "read_history", {"house": FAR, "text": "0 0 1 -; 1 1 2 0; 2 5 6 0 1"}, {"text": TEXT}),
    ("askkinds", "is_asks", {"house": FAR, "thing": ASKS}, {}),
    ("askkinds", "is_news", {"house": FAR, "asks": ASKS, "thing": NEWS}, {"asks": NOT_ASKS}),
    ("news", "latest_news", {"house": FAR, "grain": 2, "asks": ASKS}, {"grain": GRAIN, "asks": NOT_ASKS}),
    ("news", "quick_news", {"house": FAR, "asks": ASKS}, {"asks": NOT_ASKS}),
    ("news", "late_letters", {"house": FAR, "grain": 2, "asks": ASKS, "news": NEWS},
     {"grain": GRAIN, "asks": NOT_ASKS, "news": NOT_NEWS}),
    ("news", "in_time", {"house": FAR, "grain": 2, "asks": ASKS, "news": NEWS},
     {"grain": GRAIN, "asks": NOT_ASKS, "news": NOT_NEWS}),
    ("news", "known_at", {"house": FAR, "asks": ASKS, "news": NEWS, "place": 1, "moment": 1},
     {"asks": NOT_ASKS, "news": NOT_NEWS, "place": PLACE, "moment": NUMBER}),
    ("standings", "stamp_of", dict(STANDING, deed=2), dict(NOT_STANDING, deed=DOOR)),
    ("standings", "standing_of", STANDING, NOT_STANDING),
    ("standings", "due_run", DUE, NOT_DUE),
    ("stampruns", "stamp_run", RUNNING, NOT_RUNNING),
    ("programs", "is_program", {"house": FAR, "thing": PROGRAM}, {}),
    ("programs", "stamp_program", {"house": FAR, "waits": (1, 2, 0), "stamps": (0, -1, 1)},
     {"waits": WAITS, "stamps": STAMPS}),
    ("programs", "waits_of", {"house": FAR, "program": PROGRAM}, {"program": NOT_PROGRAM}),
    ("programs", "program_run", {"house": FAR, "grain": 2, "program": PROGRAM, "asks": ASKS, "news": NEWS},
     {"grain": GRAIN, "program": NOT_PROGRAM, "asks": NOT_ASKS, "news": NOT_NEWS}),
    ("breaking", "breaking_run", {"house": FAR, "program": BREAKING}, {"program": NOT_PROGRAM}),
    ("breaking", "lets_break", {"house": SHOP, "program": (("stamp", 1, 0), ("known", 0, 0)),
                                "thing": (((0, 0), (1, 3)), ((0, 0, 2, ()), (1, 3, 3, ((),))), (0, 1))},
     {"program": tuple(value for value in NOT_PROGRAM if value != PROGRAM[:2])}),
    ("spoils", "spoilt_deeds", RUNNING, NOT_RUNNING),
    ("spoils", "lacked_by", dict(RUNNING, deed=2), dict(NOT_RUNNING, deed=DOOR)),
    ("folds", "cut_of", dict(DUE, place=1, moment=3), dict(NOT_DUE, place=PLACE, moment=NUMBER)),
    ("folds", "fold_of", dict(RUNNING, place=1, moment=3), dict(NOT_RUNNING, place=PLACE, moment=NUMBER)),
    ("folds", "shown_from", dict(RUNNING, place=1, moment=3, deed=1),
     dict(NOT_RUNNING, place=PLACE, moment=NUMBER, deed=DOOR + (0, 2))),
    ("runtexts", "asks_line", {"house": FAR, "asks": ASKS}, {"asks": NOT_ASKS}),
    ("runtexts", "read_asks", {"house": FAR, "text": "0 0; 1 1; 2 5"}, {"text": TEXT}),
    ("runtexts", "program_line", {"house": FAR, "program": PROGRAM}, {"program": NOT_PROGRAM}),
    ("runtexts", "read_program", {"house": FAR, "text": "stamp 1 -1; known 0 0; here 2 5"}, {"text": TEXT}),
    ("daykinds", "is_delays", {"day": 4, "thing": (3, 2, 1, 4)}, {}),
    ("daykinds", "is_dayhouse", {"thing": FERRY}, {}),
    ("daykinds", "is_dayrows", {"dayhouse": FERRY, "thing": ((0, 0, 0, 0), (3, 2, 1, 0))}, {}),
    ("daychecker", "lets_dayhouse", {"thing": FERRY}, {}),
    ("delays", "ship_delays", {"day": 4, "ships": ((2, 1), (0, 9))},
     {"ships": NOT_TUPLES + ((), ((4, 1),), ((2, 1), (-1, 0)), ((2, -1),), ((2, True),), ((2,),), [(2, 1)], ((2, 1, 1),),
                             ([2, 1],), ((None, 1),), (2, 1))}),
    ("delays", "same_delays", {"day": 4, "units": 3}, {"units": NUMBER}),
    ("delays", "closed_delays", {"day": 2, "ways": (((0, 0), (1, 2)), (None, (0, 0)))}, {}),
    ("delays", "coming", {"delays": (3, 2, 1, 4), "hour": -1}, {"hour": HOUR}),
    ("dayhouses", "dayhouse_of", {"day": 2, "ways": DAYFAR[1], "books": FAR[1], "doors": FAR[2], "duties": FAR[3]},
     {"day": GRAIN, "ways": NOT_TUPLES + ((), (((0, 0),),) * 2, (((0, 0), (3, 1)), (None, (0, 0))), (((0, 1),),),
                                          ((None,),), (((0,),),), [[(0, 0)]], ((0,),)),
      "books": NOT_TUPLES + (("row", 0),), "doors": NOT_TUPLES + ((),), "duties": DUTIES}),
    ("dayhouses", "same_day", {"house": FAR, "day": 3}, {"day": GRAIN}),
    ("dayhouses", "same_rows", {"day": 3, "waits": (1, 0, 7, 7)},
     {"waits": NOT_TUPLES + tuple(with_item((1, 0, 7), 1, value) for value in NOT_NUMBERS)}),
    ("dayhouses", "longest_house", {"dayhouse": DAYFAR}, {}),
    ("dayarcs", "answer_hour", {"dayhouse": DAYFAR, "dayrows": DAYROWS, "door": 1, "hour": -7},
     {"dayrows": NOT_DAYROWS, "door": DOOR, "hour": HOUR}),
    ("dayarcs", "day_word", {"dayhouse": DAYFAR, "dayrows": DAYROWS, "one": (1, 1), "other": (0, 9)},
     {"dayrows": NOT_DAYROWS, "one": STEP, "other": STEP}),
    ("dayarcs", "first_ahead", {"dayhouse": DAYFAR, "dayrows": DAYROWS, "one": (1, 1), "door": 0},
     {"dayrows": NOT_DAYROWS, "one": STEP, "door": DOOR}),
    ("dayjudge", "day_kept", {"dayhouse": DAYFAR, "dayrows": DAYROWS}, {"dayrows": NOT_DAYROWS}),
    ("dayjudge", "day_ring", {"dayhouse": DAYFAR, "dayrows": ((0, 0),) * 3}, {"dayrows": NOT_DAYROWS}),
    ("dayjudge", "day_stamps", {"dayhouse": DAYFAR, "dayrows": DAYROWS}, {"dayrows": NOT_DAYROWS}),
    ("daypapers", "lets_day_ring", {"dayhouse": FERRY, "dayrows": ((0, 0, 0, 0),) * 2, "thing": ((0, 0), (1, 1))},
     {"dayrows": NOT_DAYROWS}),
    ("daypapers", "lets_day_stamps",
     {"dayhouse": FERRY, "dayrows": ((0, 0, 0, 0), (3, 2, 1, 0)), "thing": ((0, 0, 0, 0), (0, 0, 0, -1))},
     {"dayrows": NOT_DAYROWS}),
    ("leastrows", "least_row", {"dayhouse": DAYFAR, "dayrows": DAYROWS, "door": 2},
     {"dayrows": NOT_DAYROWS, "door": DOOR}),
    ("leastrows", "lowered_rows", {"dayhouse": DAYFAR, "dayrows": DAYROWS, "order": (2, 0, 1)},
     {"dayrows": NOT_DAYROWS, "order": ORDER}),
    ("leastrows", "rows_bare", {"dayhouse": DAYFAR, "dayrows": DAYROWS}, {"dayrows": NOT_DAYROWS}),
    ("dayruns", "is_day_asks", {"dayhouse": DAYFAR, "thing": ASKS}, {}),
    ("dayruns", "is_day_news", {"dayhouse": DAYFAR, "asks": ASKS, "thing": NEWS}, {"asks": NOT_ASKS}),
    ("dayruns", "latest_day_news", {"dayhouse": DAYFAR, "asks": ASKS}, {"asks": NOT_ASKS}),
    ("dayruns", "late_day_letters", {"dayhouse": DAYFAR, "asks": ASKS, "news": NEWS},
     {"asks": NOT_ASKS, "news": NOT_NEWS}),
    ("dayruns", "day_run", DAYRUN, NOT_DAYRUN),
    ("dayruns", "day_spoilt", DAYRUN, NOT_DAYRUN),
    ("dayruns", "day_breaking", {"dayhouse": DAYFAR, "dayrows": ((0, 0),) * 3, "stamps": DAYSTAMPS},
     {"dayrows": NOT_DAYROWS, "stamps": NOT_DAYSTAMPS}),
    ("daytexts", "rows_line", {"dayhouse": DAYFAR, "dayrows": DAYROWS}, {"dayrows": NOT_DAYROWS}),
    ("daytexts", "read_rows", {"dayhouse": DAYFAR, "text": "1 2; 0 3; 4 4"}, {"text": TEXT}),
    ("daytexts", "ships_line", {"day": 4, "ships": ((2, 1), (0, 9))}, {"ships": NOT_TUPLES + ((), ((4, 1),), ((0, -1),))}),
    ("daytexts", "read_ships", {"day": 4, "text": "2 1; 0 9"}, {"text": TEXT}),
    ("partings", "is_parting", {"size": 3, "thing": (0, 1, 0)}, {}),
    ("partings", "parts_of", {"parting": (0, 1, 0)}, {}),
    ("partings", "parting_by", {"size": 3, "lots": ((1,), (0, 2))},
     {"lots": NOT_TUPLES + ((), ((0, 1),), ((0, 1, 2), ()), ((0, 1), (1, 2)), ((0, 2, 1),), ((0, 1, 2, 3),), ((0, 1), (3,)),
                            ((0, 1), [2]), [(0, 1, 2)], ((0, True, 2),), ((0, 1), (2, 2)), (0, 1, 2), ((0, -1), (2,)))}),
    ("partlaw", "is_safe", {"duties": HOP, "parting": (0, 0, 2)}, {"parting": PARTING}),
    ("partlaw", "unsafe_paper", {"duties": HOP, "parting": (0, 0, 2)}, {"parting": PARTING}),
    ("partchecker", "lets_unsafe", {"duties": HOP, "parting": (0, 0, 2), "thing": ((0, 1), (2, 2))},
     {"parting": PARTING}),
    ("counters", "counter_house", {"duties": HOP, "parting": (0, 0, 2)}, {"parting": PARTING}),
    ("counters", "counter_history", {"duties": HOP, "parting": (0, 0, 2)}, {"parting": PARTING}),
    ("joining", "joined_order",
     {"duties": HOP, "grain": 3, "parting": (0, 0, 2), "deeds": JOINING, "orders": ((0, 1), (2,))},
     {"grain": GRAIN, "parting": PARTING, "deeds": NOT_JOINING,
      "orders": NOT_TUPLES + ((), ((0, 1),), ((0, 1), (2,), ()), ((0,), (2,)), ((0, 1), ()), ((0, 1), (1, 2)), ((2,), (0, 1)),
                              ((0, 0, 1), (2,)), ((0, 1), (3,)), ((0, True), (2,)), ([0, 1], (2,)), [(0, 1), (2,)],
                              ((0, 1), (None,)), (0, 1, 2))}),
    ("pairings", "pairing_cost", {"duties": HOP, "ends": (0, 2), "begins": (1, 2), "pairing": (1, 0)},
     {"ends": ENDS, "begins": BEGINS, "pairing": NOT_TUPLES + ((), (0,), (0, 0), (0, 1, 2), (1, 2), (0, True), [0, 1])}),
    ("pairings", "cheapest_pairing", {"duties": HOP, "ends": (0, 2), "begins": (1, 2)}, {"ends": ENDS, "begins": BEGINS}),
    ("pairings", "inner_pairing", {"duties": HOP, "parting": (0, 0, 2), "ends": (0, 2), "begins": (1, 2)},
     {"parting": PARTING, "ends": ENDS, "begins": BEGINS + ((0, 1), (2, 2))}),
    ("lags", "lags_of", {"duties": ((0, 1, 1), (1, 0, 1), (1, 1, 0)), "parting": (0, 0, 2)}, {"parting": PARTING}),
    ("lags", "lets_lags", {"duties": ((0, 1, 1), (1, 0, 1), (1, 1, 0)), "parting": (0, 0, 2),
                           "thing": ((1, 1, 1), (0, 0, 0))}, {"parting": PARTING}),
    ("pictures", "picture_ring", {"places": (5, 6, 5), "parting": (0, 0, 2)}, {"parting": PARTING}),
    ("gains", "is_gains", {"size": 2, "thing": GAINS}, {}),
    ("gains", "gains_of", {"table": RING3, "waits": (1, 2, 3), "outer": (0, 1)}, {"waits": WAITS, "outer": OUTER}),
    ("gains", "linked_tables", {"table": RING3, "other": FARTABLE, "outer": (0, 2), "far": (1, 2),
                                "there": ((0, None), (1, 2)), "back": ((3, 0), (None, 1))},
     {"other": NOT_TUPLES + ((),) + TABLE[-4:], "outer": OUTER, "far": OUTER, "there": LINKS, "back": LINKS}),
    ("gains", "linked_gains", {"gains": GAINS, "other": GAINS, "there": ((0, None), (1, 2)), "back": ((3, 0), (None, 1))},
     {"there": LINKS, "back": LINKS}),
    ("gains", "kept_gains", {"gains": GAINS, "lot": (1,)},
     {"lot": NOT_TUPLES + ((), (2,), (1, 0), (0, 0), (0, True), (None,), (-1,), (0, 1, 2))}),
    ("exchanges", "same_gains", {"gains": GAINS, "other": GAINS}, {}),
    ("exchanges", "telling_part", {"gains": GAINS, "other": ((-1, 0), (7, -2))}, {}),
    ("plans", "is_plan", {"table": FARTABLE, "grain": 2, "thing": PLAN}, {"grain": GRAIN}),
    ("plans", "lets_plan", {"table": FARTABLE, "grain": 2, "thing": PLAN}, {"grain": GRAIN}),
    ("plans", "changes_of", PLANNED, NOT_PLANNED),
    ("plans", "triple_of", dict(PLANNED, door=1, moment=7), dict(NOT_PLANNED, door=DOOR, moment=MOMENTS)),
    ("plans", "answer_of", dict(PLANNED, door=1, moment=7), dict(NOT_PLANNED, door=DOOR, moment=MOMENTS)),
    ("plans", "next_limit", dict(PLANNED, moment=-7), dict(NOT_PLANNED, moment=MOMENTS)),
    ("plans", "extended", dict(PLANNED, limit=9, waits=(9, 9, 9), stamps=(0, -1, 1)),
     dict(NOT_PLANNED, limit=NOT_INTEGERS + (6, -9), waits=WAITS, stamps=STAMPS + ((11, 0, 0),))),
    ("planruns", "plan_standing", {word: value for word, value in PLANRUN.items() if word != "news"},
     {word: value for word, value in NOT_PLANRUN.items() if word != "news"}),
    ("planruns", "plan_run", PLANRUN, NOT_PLANRUN),
    ("planruns", "plan_spoilt", PLANRUN, NOT_PLANRUN),
    ("liveevents", "is_event", {"thing": ("ask", 0)}, {}),
    ("liveevents", "is_log", {"thing": LOG}, {}),
    ("reasons", "reason_of", {"house": FAR, "grain": 2, "plan": PLAN, "asks": ASKS, "news": OPEN_NEWS, "held": ((0, 1),),
                              "now": 3, "event": ("hold", 0, 1)},
     dict(NOT_PLANNED, asks=NOT_ASKS, news=NOT_OPEN_NEWS, held=HELD, now=NUMBER)),
    ("replaying", "cut_log", {"log": LOG, "many": 2}, {"log": NOT_LOG, "many": NUMBER + (5, 10 ** 30)}),
    ("eventtexts", "event_line", {"event": ("ask", 0)}, {"event": NOT_EVENTS}),
    ("eventtexts", "log_text", {"log": LOG}, {"log": NOT_LOG}),
    ("eventtexts", "read_event", {"text": "change 0 waits 1 stamps -1 limit -5"}, {"text": TEXT}),
    ("eventtexts", "read_log", {"text": "ask 0\nwait 3"}, {"text": TEXT}),
]

# The classes of the interface: module, name, parameters; methods with theirs.
CLASSES = [
    ("houseclasses", "House", ["ways", "books", "doors", "duties"],
     {"sees": ["door", "other"], "hears": ["door", "other"], "later": ["units"], "kept": ["lot"], "told": []}),
    ("judgeclasses", "Judge", ["house", "waits"],
     {"kept": [], "stamps": [], "ring": ["grain"], "room": ["door", "other"], "least": ["door"], "bare": ["order"],
      "told": []}),
    ("priceclasses", "Prices", ["table", "rates"],
     {"cost": [], "waits": [], "dealing": [], "mean": [], "even": [], "paper": [], "told": []}),
    ("historyclasses", "History", ["house", "grain", "history"],
     {"order": [], "ring": [], "verdict": [], "late": ["waits"], "kept": ["lot"], "told": []}),
    ("runclasses", "Run", ["house", "grain", "waits", "stamps", "asks", "news"],
     {"history": [], "due": [], "spoilt": [], "cut": ["place", "moment"], "verdict": [], "told": []}),
    ("dayclasses", "Daybook", ["dayhouse", "dayrows"],
     {"kept": [], "stamps": [], "ring": [], "answer": ["door", "hour"], "least": ["door"], "bare": ["order"],
      "run": ["stamps", "asks", "news"], "told": []}),
    ("partclasses", "Part", ["table", "waits", "outer"],
     {"kept": [], "gains": [], "linked": ["other", "there", "back"], "inner": ["lot"], "told": []}),
    ("live", "LiveHouse", ["house", "grain", "waits", "stamps"],
     {"ask": ["door"], "wait": ["beats"], "come": ["deed", "place"], "hold": ["deed", "place"],
      "change": ["place", "waits", "stamps", "limit"], "go": ["event"], "barred": ["event"], "tried": ["events"], "log": []}),
]

# These raise Barred behind all parameters; so also where a later one is wrong, that one is told.
BARRED = {"least_stamps", "coarse_stamps", "room_of", "room_table", "tight_ring", "lowered"}

# These raise Misshown behind all parameters.
MISSHOWN = {"forced_words", "forced_pairs", "order_of", "keeps_order", "deed_ring", "late_deeds", "history_kept",
            "renumbered", "regrained", "later_history", "history_line"}


def found(module, name):
    """The function or class of that name, in that file."""
    return getattr(importlib.import_module("bestunmoved." + module), name)


def plain(result):
    """The result; of a generator the list of what it gives."""
    return list(result) if inspect.isgenerator(result) else result


def names_of(call):
    """The names of the parameters, none of them with a default or a star."""
    parameters = list(inspect.signature(call).parameters.values())
    assert all(one.kind is one.POSITIONAL_OR_KEYWORD and one.default is one.empty for one in parameters)
    return [one.name for one in parameters]


class Calls(Case):

    def test_by_position_and_by_name_and_twice(self):
        for module, name, named, _ in CALLS:
            call = found(module, name)
            held = copy.deepcopy(named)
            first = plain(call(*named.values()))
            self.same(plain(call(**named)), first, name)
            self.same(plain(call(**dict(reversed(list(named.items()))))), first, name)
            self.same(plain(call(*named.values())), first, name)
            self.same(named, held, name)

    def test_where_and_how_they_are_defined(self):
        for module, name, named, _ in CALLS:
            call = found(module, name)
            self.assertEqual(call.__module__, "bestunmoved." + module)
            self.assertEqual(names_of(call), list(named))
        for module, name, parameters, methods in CLASSES:
            made = found(module, name)
            self.assertEqual(made.__module__, "bestunmoved." + module)
            self.assertEqual(names_of(made), parameters)
            for method, own in methods.items():
                self.assertEqual(names_of(vars(made)[method]), ["self"] + own)

    def test_open_houses(self):
        asks = found("liveasks", "LiveAsks")
        self.assertEqual(asks.__module__, "bestunmoved.liveasks")
        for method, own in (("now", []), ("plan_now", []), ("asks_now", []), ("news_now", []), ("held_now", []),
                            ("due_at", ["deed"]), ("shown", ["deed"]), ("waiting", []), ("spoilt", []), ("history", [])):
            self.assertEqual(names_of(vars(asks)[method]), ["self"] + own)
        live = found("live", "LiveHouse")
        self.assertEqual(live.__bases__, (asks,))
        for method, name, value in (("do_all", "keep", False), ("undo", "steps", 1)):
            last = list(inspect.signature(vars(live)[method]).parameters.values())[-1]
            self.assertEqual((last.name, last.default, last.kind), (name, value, last.POSITIONAL_OR_KEYWORD))
        self.assertEqual(list(inspect.signature(live.do_all).parameters), ["self", "events", "keep"])
        self.assertEqual(list(inspect.signature(live.undo).parameters), ["self", "steps"])
        for module, name, own in (("replaying", "replayed", ["house", "grain", "waits", "stamps", "log"]),
                                  ("desk", "desk_line", ["live", "text"])):
            self.assertEqual(found(module, name).__module__, "bestunmoved." + module)
            self.assertEqual(names_of(found(module, name)), own)

    def test_asks_of_takes_any_number_of_pairs(self):
        call = found("askkinds", "asks_of")
        self.assertEqual(call.__module__, "bestunmoved.askkinds")
        kinds = [(one.name, one.kind, one.default) for one in inspect.signature(call).parameters.values()]
        self.assertEqual(kinds, [("house", inspect.Parameter.POSITIONAL_OR_KEYWORD, inspect.Parameter.empty),
                                 ("pairs", inspect.Parameter.VAR_POSITIONAL, inspect.Parameter.empty)])

    def test_each_wrong_parameter(self):
        for module, name, named, wrong in CALLS:
            call = found(module, name)
            for word, values in wrong.items():
                for value in values:
                    self.unusable(word, lambda **given: plain(call(**given)), **dict(named, **{word: value}))

    def test_first_of_two_wrong_parameters(self):
        for module, name, named, wrong in CALLS:
            call = found(module, name)
            for one, other in itertools.combinations(wrong, 2):
                for first in wrong[one][:6] + wrong[one][-2:]:
                    for second in wrong[other][:6] + wrong[other][-2:]:
                        self.unusable(one, call, **dict(named, **{one: first, other: second}))

    def test_wrong_things_are_never_errors_of_parameters(self):
        for module, name, named, _ in CALLS:
            if name.startswith("is_") and "thing" in named:
                for value in NOT_TUPLES + NOT_NUMBERS + (((),), ((0,),), "places", (None,) * 4, ([],) * 3):
                    self.assertIs(found(module, name)(**dict(named, thing=value)).__class__, bool)

    def test_barred_comes_behind_the_parameters(self):
        done = set()
        for module, name, named, wrong in CALLS:
            if name not in BARRED:
                continue
            call = found(module, name)
            given = dict(named, waits=(1, 1, 0))
            if "grain" in named:
                given["grain"] = 1
            with self.assertRaises(Barred) as held:
                call(**given)
            self.assertEqual(sorted(held.exception.ring), [0, 1, 2])
            self.assertIs(held.exception.ring.__class__, tuple)
            for word in wrong:
                if word != "waits":
                    self.unusable(word, call, **dict(given, **{word: wrong[word][0]}))
            done.add(name)
        self.assertEqual(done, BARRED)

    def test_misshown_comes_behind_the_parameters(self):
        done = set()
        for module, name, named, wrong in CALLS:
            if name in MISSHOWN:
                done.add(name)
                given = dict(named, history=FAULTY)
                self.fails(Misshown, (0, 0, "own"), found(module, name), **given)
                for word in wrong:
                    if word != "history":
                        self.unusable(word, found(module, name), **dict(given, **{word: wrong[word][0]}))
        self.assertEqual(done, MISSHOWN)

    def test_a_call_that_raises_changes_nothing(self):
        for module, name, named, wrong in CALLS:
            call = found(module, name)
            first = plain(call(**named))
            for word, values in wrong.items():
                given = dict(named, **{word: values[-1]})
                held = copy.deepcopy(given)
                self.unusable(word, call, **given)
                self.same(given, held)
            self.same(plain(call(**named)), first)

    def test_least_values(self):
        one = ((0,),)
        for module, name, named, _ in CALLS:
            if list(named) in (["table"], ["table", "waits"], ["table", "rates"], ["table", "grain", "waits"]):
                given = {"table": one, "waits": (0,), "rates": (0,), "grain": 1}
                plain(found(module, name)(**{word: given[word] for word in named}))
            if list(named) == ["house"]:
                found(module, name)(LONE)
