"""Sights: [18] and [19]."""

from bestunmoved.sights import doors_at, far_pairs, hears, seen_at, sees, shared_books, sight_pairs
from tests.helpers import LONE, SHOP, Case, big_house, chance, some_house

# Door 0 sees itself and door 2; door 2, at its place, sees door 1; nobody writes book 3.
THREE = (((0, 4), (3, 0)), ("row", "lot", "row", "lot"),
         ((0, (0, 1), (0, 1, 3)), (1, (2,), ()), (0, (1,), (2, 3))), ((0, None, 5), (0, 0, 0), (0, 0, 0)))


class Sights(Case):

    def test_examples(self):
        self.same((sees(SHOP, 0, 1), shared_books(SHOP, 1, 0), hears(SHOP, 0, 1), hears(SHOP, 1, 1)),
                  (False, (0,), 2, 0))

    def test_three(self):
        self.same([[sees(THREE, x, y) for y in range(3)] for x in range(3)],
                  [[True, False, True], [False, False, False], [False, True, False]])
        self.same([[shared_books(THREE, x, y) for y in range(3)] for x in range(3)],
                  [[(0, 1), (), (1,)], [(), (), ()], [(), (2,), ()]])
        self.same([[hears(THREE, x, y) for y in range(3)] for x in range(3)], [[0, 3, 0], [4, 0, 4], [0, 3, 0]])
        self.same((sight_pairs(THREE), far_pairs(THREE)), (((0, 2), (2, 1)), ((2, 1),)))
        self.same((doors_at(THREE, 0), doors_at(THREE, 1)), ((0, 2), (1,)))
        self.same((seen_at(THREE, 0), seen_at(THREE, 1)), ((0, 1, 2), ()))

    def test_no_way(self):
        house = (((0, None, 2), (None, 0, None), (1, None, 0)), (), ((0, (), ()), (1, (), ()), (2, (), ())),
                 ((0, 0, 0),) * 3)
        self.same([[hears(house, x, y) for y in range(3)] for x in range(3)],
                  [[0, None, 1], [None, 0, None], [2, None, 0]])

    def test_least_and_greatest(self):
        self.same((sight_pairs(LONE), far_pairs(LONE), doors_at(LONE, 0), seen_at(LONE, 0)), ((), (), (0,), ()))
        self.same((sees(LONE, 0, 0), shared_books(LONE, 0, 0), hears(LONE, 0, 0)), (False, (), 0))
        house = big_house()
        self.same(sight_pairs(house), tuple((x, (x + 1) % 8) for x in range(8)))
        self.same(far_pairs(house), sight_pairs(house))
        self.same(doors_at(house, 7), (0,))
        self.same(seen_at(house, 1), (6, 7))

    def test_empty_places(self):
        house = (((0, None), (None, 0)), ("row",), ((0, (0,), (0,)),), ((0,),))
        self.same((doors_at(house, 1), seen_at(house, 1), seen_at(house, 0)), ((), (), (0,)))
        self.same((sight_pairs(house), sees(house, 0, 0), shared_books(house, 0, 0)), ((), True, (0,)))

    def test_by_definition(self):
        source = chance(18)
        for _ in range(80):
            house = some_house(source)
            ways, _, doors, _ = house
            many = range(len(doors))
            books = {(x, y): set(doors[x][2]) & set(doors[y][1]) for x in many for y in many}
            for x, y in books:
                self.same(shared_books(house, x, y), tuple(sorted(books[x, y])))
                self.same(sees(house, x, y), bool(books[x, y]))
                self.same(hears(house, x, y), ways[doors[y][0]][doors[x][0]])
            pairs = [(x, y) for x, y in sorted(books) if books[x, y] and x != y]
            self.same(sight_pairs(house), tuple(pairs))
            self.same(far_pairs(house), tuple((x, y) for x, y in pairs if doors[x][0] != doors[y][0]))
            for place in range(len(ways)):
                there = [x for x in many if doors[x][0] == place]
                self.same(doors_at(house, place), tuple(there))
                self.same(seen_at(house, place), tuple(y for y in many if any(books[x, y] for x in there)))
