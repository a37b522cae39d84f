"""Orders of the parts joined into one: [77], (G10), and [82]."""

from bestunmoved.counters import counter_history
from bestunmoved.dutykinds import lag_duties
from bestunmoved.joining import joined_order
from bestunmoved.partings import parts_of
from bestunmoved.partlaw import is_safe
from tests.helpers import BIG, NOT_NUMBERS, NOT_TUPLES, Case, chance, with_item
from tests.slowparts import (HOP, slow_across, slow_joined, slow_keeps, slow_safe, slow_unsafe, slow_within, some_duties,
                             some_parting, some_parts_deeds)


def some_orders(source, duties, grain, parting, deeds):
    """For each part any order of its deeds that keeps all duties within it; None if chance finds none."""
    orders = []
    for lot in parts_of(parting):
        own = [d for d in range(len(deeds)) if deeds[d][0] in lot]
        for k in range(30):
            order = tuple(sorted(own, key=lambda d: (deeds[d][1] if k > 15 else 0, source.random())))
            if slow_keeps(duties, grain, deeds, order):
                break
        else:
            return None
        orders.append(order)
    return tuple(orders)


def some_joinings(count, seed, duties_of, most=5):
    """As many arguments of joined_order."""
    source = chance(seed)
    done = 0
    while done < count:
        size = 1 + done % 4
        duties = duties_of(source, size)
        parting = some_parting(source, size, 3)
        grain = source.randint(1, 2)
        deeds = some_parts_deeds(source, size, source.randint(0, most))
        orders = some_orders(source, duties, grain, parting, deeds)
        if orders is not None:
            done += 1
            yield duties, grain, parting, deeds, orders


def some_counters(count, seed):
    """As many arguments of joined_order, of counter histories."""
    source = chance(seed)
    done = 0
    while done < count:
        duties, parting = some_duties(source, 4), some_parting(source, 4)
        found = counter_history(duties, parting)
        if found is not None:
            deeds = tuple(deed[:3] for deed in found[2])
            # Each begin stands ahead of the end that it does not show.
            lots = [[d for d in range(len(deeds)) if deeds[d][0] in lot] for lot in parts_of(parting)]
            orders = tuple(tuple(sorted(own, key=lambda d: found[2][d][3] == ())) for own in lots)
            done += 1
            yield duties, found[1], parting, deeds, orders


def by_lags(source, size):
    """Duties that are safe."""
    return lag_duties(*(tuple(source.randint(0, 2) for _ in range(size)) for _ in range(2)))


class Joined(Case):

    def test_by_all_sequences(self):
        found = [0, 0]
        source = chance(7700)
        some = list(some_joinings(200, 770, lambda source, size: some_duties(source, size, 3, 0.4), most=6))
        for duties, grain, parting, deeds, orders in some_counters(100, 774):
            # A moment of them a little sooner or later.
            at = source.randrange(len(deeds))
            door, asked, _ = deeds[at]
            asked = max(0, asked + source.randint(-3, 3))
            moved = with_item(deeds, at, (door, asked, asked + source.randint(0, 1)))
            if all(slow_keeps(duties, grain, moved, order) for order in orders):
                some.append((duties, grain, parting, moved, orders))
        for args in some:
            want = list(slow_joined(*args))
            got = joined_order(*args)
            found[want != []] += 1
            if want:
                self.assertIn(got, want)
            else:
                self.same(got, None)
                # [82]: only for duties that are not safe.
                self.same(is_safe(args[0], args[2]), False)
        self.assertGreater(min(found), 5)

    def test_safe_duties_always_join(self):
        # (G10), also of more deeds than all sequences can be gone through.
        for args in some_joinings(150, 771, by_lags, most=12):
            self.asked(args, joined_order(*args))

    def asked(self, args, order):
        """The order has all deeds once, keeps all duties, and has those of each part in its sequence."""
        duties, grain, parting, deeds, orders = args
        self.same(sorted(order), list(range(len(deeds))))
        self.same(slow_keeps(duties, grain, deeds, order), True)
        for lot, part in zip(parts_of(parting), orders):
            self.same(tuple(d for d in order if deeds[d][0] in lot), part)

    def test_just_unsafe_at_the_grain(self):
        # (G10): so, too, if grain times within less across is at most k - 1 for any k parts.
        joined = 0
        for args in some_joinings(400, 772, lambda source, size: some_duties(source, size, 1, 0.4)):
            duties, grain, parting = args[:3]
            if all(slow_within(duties, pairs) is not None
                   and grain * (slow_within(duties, pairs) - slow_across(duties, pairs)) <= len(pairs) - 1
                   for pairs in slow_unsafe(duties, parting)):
                joined += not slow_safe(duties, parting)
                self.asked(args, joined_order(*args))
        self.assertGreater(joined, 3)

    def test_counter_histories_do_not_join(self):
        for args in some_counters(60, 773):
            self.same(joined_order(*args), None)
            self.same(list(slow_joined(*args)), [])

    def test_edges(self):
        self.same(joined_order(HOP, 3, (0, 0, 2), (), ((), ())), ())
        self.same(joined_order(HOP, 1, (0, 0, 0), ((0, 0, 0), (0, 5, 5)), ((0, 1),)), (0, 1))
        # Deeds of one part alone, in the sequence that is told.
        self.same(joined_order(HOP, 1, (0, 0, 2), ((1, 3, 9), (1, 4, 5), (1, 0, 6)), ((1, 0, 2), ())), (1, 0, 2))
        # Asked just the duty after the answer is not more.
        self.assertIn(joined_order(HOP, 3, (0, 1, 2), ((0, 0, 0), (1, 9, 9)), ((0,), (1,), ())), [(0, 1), (1, 0)])
        self.same(joined_order(HOP, 3, (0, 1, 2), ((0, 0, 0), (1, 10, 10)), ((0,), (1,), ())), (0, 1))
        self.same(joined_order(HOP, 3, (0, 1, 2), ((1, 10, 10), (0, 0, 0)), ((1,), (0,), ())), (1, 0))
        self.same(joined_order(((0,),), 1, (0,), tuple((0, 10 ** 40 + k, 10 ** 40 + k) for k in range(3)), ((0, 1, 2),)),
                  (0, 1, 2))
        big = ((0, BIG), (BIG, 0))
        self.same([joined_order(big, 10 ** 6, (0, 1), ((1, 10 ** 36 + more, 10 ** 37), (0, 0, 0)), ((1,), (0,)))
                   for more in (1, 2)], [(1, 0)] * 2)
        forty = tuple((k % 3, k, k) for k in range(40))
        lots = tuple(tuple(d for d in range(40) if d % 3 in lot) for lot in ((0, 1), (2,)))
        self.asked((HOP, 1, (0, 0, 2), forty, lots), joined_order(HOP, 1, (0, 0, 2), forty, lots))

    def test_wrong_orders(self):
        deeds = ((0, 0, 0), (1, 9, 9), (2, 4, 4))
        for orders in NOT_TUPLES + ((), ((0, 1),), ((0, 1), (2,), ()), ((0,), (2,)), ((0, 1), ()), ((0, 1), (1, 2)),
                                    ((2,), (0, 1)), ((0, 0, 1), (2,)), ((0, 1), (3,)), ([0, 1], (2,)), [(0, 1), (2,)],
                                    ((0, 1), (None,)), ((0, 1), 2), ((0, 1), (2, 2))):
            self.unusable("orders", joined_order, HOP, 3, (0, 0, 2), deeds, orders)
        for value in NOT_NUMBERS:
            self.unusable("orders", joined_order, HOP, 3, (0, 0, 2), deeds, ((0, 1), (value,)))
        # It has to keep the duties within the part: 1 is asked ten after 0 was answered.
        self.assertIsNotNone(joined_order(HOP, 3, (0, 0, 2), deeds, ((1, 0), (2,))) or 1)
        self.unusable("orders", joined_order, HOP, 3, (0, 0, 2), with_item(deeds, 1, (1, 10, 10)), ((1, 0), (2,)))
        self.unusable("orders", joined_order, HOP, 1, (0, 0, 0), ((0, 0, 0), (0, 1, 1)), ((1, 0),))
        self.same(joined_order(HOP, 1, (0, 0, 0), ((0, 0, 1), (0, 1, 1)), ((1, 0),)), (1, 0))
