"""Houses changed: [20], and of [22] what speaks of it."""

from bestunmoved.errors import NotUsable, Unheard
from bestunmoved.housechanges import later_house, lengthened, with_door, with_duties
from bestunmoved.kinds import is_house, is_ways
from bestunmoved.partedhouses import beside_house, kept_house, renamed_house
from bestunmoved.sights import hears, sees, shared_books
from tests.helpers import (BIG, LONE, NOT_SPANS, NOT_TUPLES, SHOP, Case, big_house, chance, some_house, some_lot,
                           some_rows, with_part)

FAR = (((0, 1, 3), (1, 0, 2), (None, None, 0)), ("row", "lot"), ((0, (0,), (0,)), (1, (1,), (0,)), (2, (), (0, 1))),
       ((0, 1, None), (2, 0, 3), (4, None, 0)))


class Later(Case):

    def test_ways(self):
        self.same(later_house(FAR, 5), (((0, 6, 8), (6, 0, 7), (None, None, 0)),) + FAR[1:])
        self.same(later_house(LONE, BIG), LONE)
        self.same(later_house(SHOP, BIG)[0], ((0, BIG + 2), (BIG + 2, 0)))

    def test_consequences(self):
        source = chance(20)
        for _ in range(40):
            house = some_house(source)
            one, two = source.randint(0, 4), source.randint(0, 4)
            self.same(later_house(house, 0), house)
            self.same(later_house(later_house(house, one), two), later_house(house, one + two))
            self.assertTrue(is_house(later_house(house, one)))


class Lengthened(Case):

    def test_up_to_handing_on(self):
        self.same(lengthened(FAR, 1, 2, 0), FAR)
        # From 1 by 0 to 2 it is 4; from 0 by 1 to 2 it is 3, as straight; from 0 to 1 there is no other way.
        self.same(lengthened(FAR, 1, 2, 2)[0], ((0, 1, 3), (1, 0, 4), (None, None, 0)))
        self.unusable("units", lengthened, FAR, 1, 2, 3)
        self.unusable("units", lengthened, FAR, 0, 2, 1)
        self.same(lengthened(FAR, 0, 1, BIG)[0], ((0, BIG + 1, 3), (1, 0, 2), (None, None, 0)))
        self.same(lengthened(FAR, 1, 0, 7)[1:], FAR[1:])

    def test_there(self):
        for there in (1, 3, -1, True, None):
            self.unusable("there", lengthened, FAR, 1, there, 0)
        self.unusable("there", lengthened, FAR, 2, 0, 0)
        self.unusable("there", lengthened, LONE, 0, 0, 0)
        self.unusable("there", lengthened, FAR, 2, 2, -1)

    def test_by_definition(self):
        source = chance(201)
        for _ in range(150):
            house = some_house(source, places=4)
            ways = house[0]
            here, there, units = source.randrange(len(ways)), source.randrange(len(ways)), source.randint(0, 5)
            if here == there or ways[here][there] is None:
                self.unusable("there", lengthened, house, here, there, units)
                continue
            longer = with_part(ways, (here, there), ways[here][there] + units)
            if is_ways(longer):
                self.same(lengthened(house, here, there, units), (longer,) + house[1:])
                self.assertTrue(is_house((longer,) + house[1:]))
            else:
                self.unusable("units", lengthened, house, here, there, units)


class WithDuties(Case):

    def test_duties(self):
        other = ((0, None), (BIG, 0))
        self.same(with_duties(SHOP, other), SHOP[:3] + (other,))
        for duties in ((), ((0,),), ((0, 1), (1, 1)), ((0, 1), [1, 0]), ((0, -1), (1, 0)), ((0, True), (1, 0)),
                       ((0, 0, 0),) * 3):
            self.unusable("duties", with_duties, SHOP, duties)


class WithDoor(Case):

    def test_example(self):
        self.same(with_door(SHOP, 0, (), (0,), (None, 0), (1, None))[3], ((0, 0, 1), (0, 0, None), (None, 0, 0)))

    def test_the_last_door(self):
        house = with_door(FAR, 2, (1,), (0, 1), (None, 5, BIG), (0, None, 7))
        self.same(house, FAR[:2] + (FAR[2] + ((2, (1,), (0, 1)),),
                                    ((0, 1, None, 0), (2, 0, 3, None), (4, None, 0, 7), (None, 5, BIG, 0))))
        self.assertTrue(is_house(house))
        self.same(with_door(LONE, 0, (), (), (0,), (None,))[2:], (((0, (), ()),) * 2, ((0, None), (0, 0))))

    def test_unheard(self):
        # No letter goes from place 2; so nobody elsewhere hears a writer there.
        self.fails(Unheard, (0, 3), with_door, FAR, 2, (0,), (), (0, 0, 0), (0, 0, 0))
        self.fails(Unheard, (3, 2), with_door, (((0, 1), (None, 0)), ("lot", "lot"),
                                                ((0, (), ()), (0, (0,), ()), (1, (1,), ())), ((0, 0, 0),) * 3),
                   0, (), (0, 1), (0, 0, 0), (0, 0, 0))
        # A door that sees itself alone need not be heard.
        apart = (((0, None), (None, 0)), ("row",), ((0, (), ()),), ((0,),))
        self.same(with_door(apart, 1, (0,), (0,), (0,), (0,))[2][1], (1, (0,), (0,)))

    def test_by_definition(self):
        source = chance(202)
        for _ in range(100):
            house = some_house(source)
            ways, books, doors, duties = house
            door = (source.randrange(len(ways)), some_lot(source, len(books)), some_lot(source, len(books)))
            out = tuple(source.choice((None, 0, 3)) for _ in doors)
            back = tuple(source.choice((None, 0, 3)) for _ in doors)
            more = (ways, books, doors + (door,), tuple(row + (end,) for row, end in zip(duties, back)) + (out + (0,),))
            if is_house(more):
                self.same(with_door(house, *door, out, back), more)
            else:
                with self.assertRaises(Unheard) as held:
                    with_door(house, *door, out, back)
                deaf = [(x, y) for x in range(len(doors) + 1) for y in range(len(doors) + 1)
                        if x != y and sees(more, x, y) and hears(more, x, y) is None]
                self.same((held.exception.door, held.exception.other), deaf[0])


class Parted(Case):

    def test_examples(self):
        self.same((kept_house(SHOP, (1,))[2], renamed_house(SHOP, (1, 0))[2]),
                  (((1, (), (0,)),), ((1, (), (0,)), (0, (0,), ()))))

    def test_kept(self):
        self.same(kept_house(FAR, (0, 2)), FAR[:2] + ((FAR[2][0], FAR[2][2]), ((0, None), (4, 0))))
        self.same(kept_house(FAR, (0, 1, 2)), FAR)
        self.same(kept_house(FAR, (1,))[3], ((0,),))
        self.unusable("lot", kept_house, FAR, ())

    def test_renamed(self):
        # Door 0 becomes 2, door 1 becomes 0, door 2 becomes 1.
        self.same(renamed_house(FAR, (2, 0, 1)), FAR[:2] + ((FAR[2][1], FAR[2][2], FAR[2][0]),
                                                            ((0, 3, 2), (None, 0, 4), (1, None, 0))))
        self.same(renamed_house(FAR, (0, 1, 2)), FAR)
        self.same(renamed_house(LONE, (0,)), LONE)

    def test_doors_stay_what_they_were(self):
        source = chance(22)
        for _ in range(60):
            house = some_house(source)
            many = len(house[2])
            order = list(range(many))
            source.shuffle(order)
            lot = some_lot(source, many) or (0,)
            renamed = renamed_house(house, tuple(order))
            kept = kept_house(house, lot)
            places = dict(zip(lot, range(many)))
            for named, other in ((order, renamed), (places, kept)):
                self.assertTrue(is_house(other))
                self.same(other[:2], house[:2])
                old = list(range(many)) if other is renamed else list(lot)
                self.assertEqual(len(other[2]), len(old))
                for x in old:
                    self.same(other[2][named[x]], house[2][x])
                    for y in old:
                        self.same(shared_books(other, named[x], named[y]), shared_books(house, x, y))
                        self.same(hears(other, named[x], named[y]), hears(house, x, y))
                        self.same(other[3][named[x]][named[y]], house[3][x][y])

    def test_beside(self):
        self.same(beside_house(SHOP, LONE, None), (
            ((0, 2, None), (2, 0, None), (None, None, 0)), ("row",), SHOP[2] + ((2, (), ()),),
            ((0, 0, None), (0, 0, None), (None, None, 0))))
        self.same(beside_house(LONE, SHOP, 7), (
            ((0, None, None), (None, 0, 2), (None, 2, 0)), ("row",),
            ((0, (), ()), (1, (0,), ()), (2, (), (0,))), ((0, 7, 7), (7, 0, 0), (7, 0, 0))))
        both = beside_house(SHOP, SHOP, 0)
        self.same(both[1:3], (("row", "row"), ((0, (0,), ()), (1, (), (0,)), (2, (1,), ()), (3, (), (1,)))))
        for house in (both, beside_house(FAR, SHOP, BIG), beside_house(big_house(), big_house(), None)):
            self.assertTrue(is_house(house))
        self.same(kept_house(both, (2, 3))[3], SHOP[3])

    def test_beside_wrong(self):
        for other in NOT_TUPLES + ((), SHOP[:3], with_part(SHOP, (0, 0), (0, None)), with_part(SHOP, (2,), ())):
            self.unusable("other", beside_house, SHOP, other, None)
            self.unusable("other", beside_house, SHOP, other, -1)
        for across in NOT_SPANS:
            self.unusable("across", beside_house, SHOP, SHOP, across)

    def test_results_are_houses_again(self):
        source = chance(203)
        for _ in range(30):
            house, other = some_house(source), some_house(source)
            duties = some_rows(source, len(house[2]), 0, 3, 0.5)
            for made in (with_duties(house, duties), beside_house(house, other, 0), beside_house(house, other, None)):
                self.assertTrue(is_house(made))
            self.assertRaises(NotUsable, with_duties, house, duties + duties)
