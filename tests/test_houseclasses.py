"""House objects: [21]."""

from bestunmoved.errors import Unheard
from bestunmoved.houseclasses import House
from bestunmoved.housechanges import later_house
from bestunmoved.partedhouses import kept_house
from bestunmoved.sights import hears, sees
from tests.helpers import LONE, NOT_NUMBERS, SHOP, Case, big_house, chance, some_house


class Houses(Case):

    def test_told(self):
        for house in (SHOP, LONE, big_house()):
            self.same(House(*house).told(), house)
            self.assertEqual(len(House(*house)), len(house[2]))
        loose = House(((0, 1, 9), (None, 0, 2), (None, None, 0)), ("lot",), ((2, (), (0, 0)),), ((0,),))
        self.same(loose.told(), (((0, 1, 3), (None, 0, 2), (None, None, 0)), ("lot",), ((2, (), (0,)),), ((0,),)))
        named = House(duties=SHOP[3], doors=SHOP[2], books=SHOP[1], ways=SHOP[0])
        self.same(named.told(), SHOP)

    def test_errors(self):
        words = ("ways", "books", "doors", "duties")
        for at, word in enumerate(words):
            self.unusable(word, House, *(SHOP[:at] + (None,) * (4 - at)))
        self.fails(Unheard, (1, 0), House, ((0, None), (2, 0)), *SHOP[1:])

    def test_methods(self):
        source = chance(210)
        for _ in range(20):
            house = some_house(source)
            made = House(*house)
            many = len(house[2])
            for x in range(many):
                for y in range(many):
                    self.same(made.sees(x, y), sees(house, x, y))
                    self.same(made.hears(door=x, other=y), hears(house, x, y))
                later = made.later(x)
                kept = made.kept((x,))
                self.assertIs(later.__class__, House)
                self.assertIs(kept.__class__, House)
                self.same(later.told(), later_house(house, x))
                self.same(kept.told(), kept_house(house, (x,)))
            self.same(made.told(), house)

    def test_methods_errors(self):
        shop = House(*SHOP)
        for door in NOT_NUMBERS + (2,):
            for call in (shop.sees, shop.hears):
                self.unusable("door", call, door, 2)
                self.unusable("other", call, 1, door)
        for units in NOT_NUMBERS:
            self.unusable("units", shop.later, units)
        for lot in (None, 0, (), [0], (2,), (1, 0), (True,)):
            self.unusable("lot", shop.kept, lot)
        self.same(shop.told(), SHOP)

    def test_equal(self):
        shop = House(*SHOP)
        self.assertTrue(shop == shop)
        self.assertTrue(shop == House(*SHOP))
        self.assertFalse(shop != House(*SHOP))
        self.assertFalse(shop == shop.later(1))
        self.assertTrue(shop == shop.later(0))
        self.assertTrue(shop != House(*LONE))
        for value in (SHOP, None, 0, (), "", [SHOP], list(SHOP)):
            self.assertFalse(shop == value)
            self.assertTrue(shop != value)

    def test_defined_in_the_class(self):
        for name in ("__init__", "sees", "hears", "later", "kept", "told", "__len__", "__eq__"):
            self.assertIn(name, vars(House))
