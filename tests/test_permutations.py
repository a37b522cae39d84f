"""Permutations: [36], and of (G2) and [42] what speaks of them."""

import itertools

from bestunmoved.dealings import least_cost
from bestunmoved.judging import is_kept
from bestunmoved.permutations import diagonal_worth, moving_worth, permutation_worth, within_worth
from tests.helpers import (BIG, NOT_NUMBERS, NOT_TUPLES, RING3, Case, chance, slow_permutations, small_tables,
                           some_table, with_item)


def rows_of(table, lot, diagonal):
    """The rows of the lot with other entries on the diagonal."""
    return [[diagonal[x] if x == y else table[x][y] for y in lot] for x in lot]


class Permutations(Case):

    def test_examples(self):
        self.same((moving_worth(RING3, (0, 1)), within_worth(RING3, (0, 1)), diagonal_worth(RING3, (3, 0, 1))),
                  (None, 0, 6))

    def test_edges(self):
        self.same((permutation_worth(RING3, (), ()), moving_worth(RING3, ()), within_worth(RING3, ())), (0, 0, 0))
        self.same((permutation_worth(RING3, (1,), (1,)), moving_worth(RING3, (1,)), within_worth(RING3, (1,))),
                  (0, None, 0))
        self.same((moving_worth(RING3, (0, 1, 2)), within_worth(RING3, (0, 1, 2))), (6, 6))
        table = ((0, -BIG), (1, 0))
        self.same((moving_worth(table, (0, 1)), within_worth(table, (0, 1))), (1 - BIG, 0))
        self.same([diagonal_worth(((0, BIG), (BIG, 0)), waits) for waits in ((0, 0), (BIG, BIG), (2 * BIG, 1))],
                  [2 * BIG, 2 * BIG, 2 * BIG + 1])

    def test_worth(self):
        # The first door of the lot goes to the first one of the order.
        self.same(permutation_worth(RING3, (0, 1, 2), (1, 2, 0)), 6)
        self.same(permutation_worth(RING3, (0, 1, 2), (2, 0, 1)), None)
        self.same(permutation_worth(RING3, (0, 1, 2), (0, 1, 2)), 0)
        self.same(permutation_worth(((0, 4, 1), (2, 0, 8), (16, 32, 0)), (0, 2), (2, 0)), 17)
        for order in NOT_TUPLES + ((), (0,), (2,), (0, 2, 2), (0, 1), (0, 0), (2, 2), (0, 1, 2), [0, 2], (0, "2"),
                                   (0, None), (False, 2), ((0,), 2), (0, (2,)), (0, [2])):
            self.unusable("order", permutation_worth, RING3, (0, 2), order)
        self.unusable("order", permutation_worth, RING3, (1, 2), (True, 2))

    def test_by_definition(self):
        for table, waits in small_tables(120, 36, most=5):
            doors = range(len(table))
            for many in range(len(table) + 1):
                for lot in itertools.combinations(doors, many):
                    worths = list(slow_permutations(rows_of(table, lot, [0] * len(table))))
                    moving = list(slow_permutations(rows_of(table, lot, [None] * len(table))))
                    self.same(within_worth(table, lot), max(worths))
                    self.same(moving_worth(table, lot), max(moving) if moving else None)
                    orders = itertools.permutations(lot)
                    found = [permutation_worth(table, lot, order) for order in orders]
                    self.assertEqual(sorted(worth for worth in found if worth is not None), sorted(worths))
            self.same(diagonal_worth(table, waits), max(slow_permutations(rows_of(table, tuple(doors), waits))))

    def test_consequences(self):
        for table, waits in small_tables(150, 361, most=5):
            self.same(diagonal_worth(table, waits) == sum(waits), is_kept(table, waits))
            for lot in itertools.combinations(range(len(table)), len(table) // 2):
                rates = tuple(1 if x in lot else 0 for x in range(len(table)))
                self.same(within_worth(table, lot), least_cost(table, rates))

    def test_eight_doors(self):
        source = chance(362)
        table = some_table(source, 8, -9, 9, 0.3)
        waits = tuple(source.randint(0, 9) for _ in range(8))
        rows = [with_item(row, x, waits[x]) for x, row in enumerate(table)]
        self.same(diagonal_worth(table, waits), max(slow_permutations(rows)))

    def test_wrong_lots(self):
        for lot in NOT_TUPLES + ((3,), (1, 0), (0, 0), (True,), (None,), (-1,), ((0,),)):
            for call in (moving_worth, within_worth):
                self.unusable("lot", call, RING3, lot)
            self.unusable("lot", permutation_worth, RING3, lot, lot)
        for value in NOT_NUMBERS:
            self.unusable("waits", diagonal_worth, RING3, (0, 0, value))
