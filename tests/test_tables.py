"""Tables: [23], and of [32] what speaks of them."""

import itertools

from bestunmoved.partedhouses import kept_house
from bestunmoved.sights import hears, sees
from bestunmoved.tables import entry_word, is_table, kept_table, scaled, table_of
from tests.helpers import (BIG, LONE, NOT_INTEGERS, NOT_TUPLES, RING3, SHOP, Case, big_house, chance, some_house,
                           some_lot, some_table, with_part)

# Door 0 sees itself and, at its place, door 1, with an endless duty; door 1 owes all, door 2 nothing.
HALL = (((0, 4), (3, 0)), ("lot", "row"), ((0, (0,), (0, 1)), (0, (1,), ()), (1, (0,), (1,))),
        ((0, None, None), (0, 0, BIG), (None, 6, 0)))


class Tables(Case):

    def test_is_table(self):
        for table in (((0,),), RING3, ((0, -BIG), (BIG, 0)), ((0, None), (None, 0)), table_of(big_house())):
            self.same(is_table(table), True)
        for thing in NOT_TUPLES + ((), ((),), (0,), ((1,),), ((None,),), ((False,),), ((0, 1),), [(0,)], ([0],),
                                   ((0, 1), (1,)), ((0, 1), (1, 0, 0)), ((0, 1), (1, 2)), ((0, 1), (1, 0), (1, 0)),
                                   ((0, 0), (0, False)), ((0, 0), None)):
            self.same(is_table(thing), False, thing)
        for value in NOT_INTEGERS:
            self.same(is_table(((0, value), (1, 0))), value is None, value)

    def test_table_of(self):
        self.same(table_of(SHOP), ((0, 0), (2, 0)))
        self.same(table_of(LONE), ((0,),))
        # Door 0 sees doors 1 (way 0) and 2 (from place 1 to 0: 3); door 2 sees door 1 (from place 0 to 1: 4).
        self.same(table_of(HALL), ((0, 0, 3), (0, 0, -BIG), (None, 4, 0)))

    def test_by_definition(self):
        source = chance(23)
        for _ in range(80):
            house = some_house(source)
            many = range(len(house[2]))
            rows = []
            for x in many:
                row = []
                for y in many:
                    duty = house[3][x][y]
                    sight = x != y and sees(house, x, y)
                    row.append(hears(house, x, y) if sight else (None if duty is None else -duty))
                    if x != y:
                        word = "sight" if sight else (None if duty is None else "duty")
                        self.same(entry_word(house, x, y), word)
                rows.append(tuple(row))
            self.same(table_of(house), tuple(rows))
            self.assertTrue(is_table(table_of(house)))
            lot = some_lot(source, len(house[2])) or (0,)
            self.same(table_of(kept_house(house, lot)), kept_table(table_of(house), lot))

    def test_entry_word(self):
        self.same([entry_word(SHOP, 1, 0), entry_word(SHOP, 0, 1)], ['sight', 'duty'])
        self.same([entry_word(HALL, x, y) for x, y in itertools.permutations(range(3), 2)],
                  ["sight", "sight", "duty", "duty", None, "sight"])
        for x in range(3):
            self.unusable("other", entry_word, HALL, x, x)

    def test_kept_table(self):
        self.same(kept_table(RING3, (0, 2)), ((0, None), (2, 0)))
        self.same(kept_table(RING3, (0, 1)), ((0, 3), (None, 0)))
        self.same(kept_table(RING3, (1,)), ((0,),))
        self.same(kept_table(RING3, (0, 1, 2)), RING3)
        self.unusable("lot", kept_table, RING3, ())

    def test_scaled(self):
        self.same(scaled(RING3, 1), RING3)
        self.same(scaled(((0, -3, None), (None, 0, BIG), (2, 0, 0)), 10 ** 6),
                  ((0, -3 * 10 ** 6, None), (None, 0, 10 ** 36), (2 * 10 ** 6, 0, 0)))
        source = chance(231)
        for k in range(1, 9):
            table = some_table(source, k)
            self.same(scaled(table, k), tuple(tuple(None if e is None else e * k for e in row) for row in table))

    def test_replaced_parts(self):
        for x, y in itertools.product(range(3), repeat=2):
            self.same(is_table(with_part(RING3, (x, y), 1)), x != y)
            self.same(is_table(with_part(RING3, (x, y), None)), x != y)
