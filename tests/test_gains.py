"""Gains, linked tables and gains, parts that tell gains apart, parts as objects: [80], [81], (G6), (G11), [82]."""

import itertools

from bestunmoved.exchanges import same_gains, telling_part
from bestunmoved.gains import gains_of, is_gains, kept_gains, linked_gains, linked_tables
from bestunmoved.judging import is_kept
from bestunmoved.partclasses import Part
from bestunmoved.rooms import room_of
from bestunmoved.tables import is_table
from tests.helpers import (BIG, NOT_INTEGERS, NOT_NUMBERS, NOT_TUPLES, RING3, Case, chance, kept_tables, slow_kept,
                           slow_slack, slow_rings, small_tables, some_lot, some_table, with_item, with_part)

TWO = ((0, 1), (None, 0))


def slow_gain(table, waits, begin, end):
    """The greatest worth less the waits of all walks of entries of at most twice as many steps as doors; or None."""
    reached = {begin: -waits[begin]}
    best = reached.get(end)
    for _ in range(2 * len(table)):
        more = {}
        for x, worth in reached.items():
            for y, entry in enumerate(table[x]):
                if x != y and entry is not None:
                    more[y] = max(more.get(y, worth + entry - waits[y]), worth + entry - waits[y])
        reached = more
        if end in reached and (best is None or best < reached[end]):
            best = reached[end]
    return best


def slow_gains(table, waits, outer):
    """The gains by the definition."""
    if not slow_kept(table, waits):
        return None
    return tuple(tuple(slow_gain(table, waits, b, e) for e in outer) for b in outer)


def slow_linked(gains, other, there, back):
    """The linked gains, all paths of at most twice as many gains as outer doors gone through."""
    if gains is None or other is None:
        return None
    many, more = len(gains), len(other)
    doors = range(many + more)

    def gain(b, e):
        if (b < many) != (e < many):
            return None
        return gains[b][e] if b < many else other[b - many][e - many]

    def duty(e, b):
        if (b < many) == (e < many):
            return None
        return there[e][b - many] if e < many else back[e - many][b]

    rows = []
    for begin in doors:
        best = {}
        reached = {e: gain(begin, e) for e in doors if gain(begin, e) is not None}
        for _ in range(2 * (many + more)):
            for e, worth in reached.items():
                best[e] = max(best.get(e, worth), worth)
                if duty(e, begin) is not None and worth > duty(e, begin):
                    return None
            longer = {}
            for e, worth in reached.items():
                for b in doors:
                    for last in doors:
                        if duty(e, b) is not None and gain(b, last) is not None:
                            now = worth - duty(e, b) + gain(b, last)
                            longer[last] = max(longer.get(last, now), now)
            reached = longer
        rows.append(tuple(best.get(e) for e in doors))
    return tuple(rows)


def some_outer(source, many):
    """Any lot of many doors, not ()."""
    return some_lot(source, many) or (source.randrange(many),)


def some_links(source, rows, columns, high=6, gaps=0.35):
    """Any duties from so many doors to so many."""
    return tuple(tuple(None if source.random() < gaps else source.randint(0, high) for _ in range(columns))
                 for _ in range(rows))


def some_gains(source, size, low=-6, high=3, gaps=0.3):
    """Any gains, whether some table has them or not."""
    if source.random() < 0.05:
        return None
    return tuple(tuple(None if source.random() < gaps else source.randint(low, high) for _ in range(size))
                 for _ in range(size))


def some_parts(count, seed, most=3):
    """As many pairs of parts (table, waits, outer), with the duties there and back."""
    source = chance(seed)
    for k in range(count):
        parts = []
        for _ in range(2):
            many = source.randint(1, most)
            table = some_table(source, many)
            waits = tuple(source.randint(0, 4) for _ in range(many))
            parts.append((table, waits, some_outer(source, many)))
        one, other = parts
        yield one, other, some_links(source, len(one[2]), len(other[2])), some_links(source, len(other[2]), len(one[2]))


class Kinds(Case):

    def test_is_gains(self):
        for size, thing in ((0, None), (9, None), (0, ()), (1, ((None,),)), (1, ((-BIG,),)), (2, ((1, 2), (None, 0)))):
            self.same(is_gains(size, thing), True)
        for size, thing in ((1, ()), (0, ((),)), (2, ((1, 2),)), (2, ((1, 2), (0,))), (2, [(1, 2), (3, 4)]),
                            (2, ((1, 2), [3, 4])), (1, ((True,),)), (1, (("0",),)), (1, (((),),)), (1, (0,)), (2, (0, 0))):
            self.same(is_gains(size, thing), False)
        for value in NOT_INTEGERS:
            self.same(is_gains(2, ((0, value), (1, 2))), value is None)
        for value in NOT_TUPLES:
            self.same(is_gains(2, value), value is None)


class Gains(Case):

    def test_by_all_walks(self):
        source = chance(800)
        for table, waits in list(small_tables(250, 801)) + list(kept_tables(250, 802)):
            outer = some_outer(source, len(table))
            got = gains_of(table, waits, outer)
            self.same(got, slow_gains(table, waits, outer))
            self.same(is_gains(len(outer), got), True)
            if got is not None:
                # No step at all is a walk from a door to itself.
                self.same([got[k][k] for k in range(len(outer))], [-waits[door] for door in outer])

    def test_edges(self):
        self.same(gains_of(((0,),), (7,), (0,)), ((-7,),))
        self.same(gains_of(TWO, (0, 0), (0, 1)), ((0, 1), (None, 0)))
        self.same(gains_of(RING3, (2, 2, 1), (0,)), None)
        self.same(gains_of(RING3, (2, 2, 2), (2,)), ((-2,),))
        big = ((0, BIG, None), (None, 0, BIG), (-3 * BIG, None, 0))
        self.same(gains_of(big, (BIG, 0, 0), (0, 2)), ((-BIG, BIG), (-4 * BIG, 0)))
        eight = tuple(tuple(0 if x == y else 1 if y == x + 1 else None for y in range(8)) for x in range(8))
        self.same(gains_of(eight, (0,) * 8, (0, 7)), ((0, 7), (None, 0)))
        for value in NOT_TUPLES + ((), (3,), (1, 0), (0, 0)):
            self.unusable("outer", gains_of, RING3, (2, 2, 1), value)

    def test_rooms(self):
        # (G6): the room of a door for an unlike one is the gain from that one to it, its sign changed.
        rooms = [0, 0]
        for table, waits in kept_tables(200, 803):
            everyone = tuple(range(len(table)))
            gains = gains_of(table, waits, everyone)
            for x, y in itertools.permutations(everyone, 2):
                gain = gains[y][x]
                rooms[gain is None] += 1
                self.same(room_of(table, waits, x, y), None if gain is None else -gain)
        self.assertGreater(min(rooms), 50)

    def test_kept_gains(self):
        source = chance(804)
        for table, waits in kept_tables(100, 805):
            outer = some_outer(source, len(table))
            lot = some_outer(source, len(outer))
            self.same(kept_gains(gains_of(table, waits, outer), lot),
                      gains_of(table, waits, tuple(outer[k] for k in lot)))
        for lot in NOT_TUPLES + ((), (0,), (5, 5)):
            self.same(kept_gains(None, lot), None)
        for lot in NOT_TUPLES + ((), (2,), (1, 0), (0, 0), (0, 2)):
            self.unusable("lot", kept_gains, ((-1, 0), (None, -2)), lot)


class Linked(Case):

    def test_tables(self):
        got = linked_tables(TWO, RING3, (0, 1), (2,), ((5,), (None,)), ((None, 7),))
        self.same(got, ((0, 1, None, None, -5), (None, 0, None, None, None), (None, None, 0, 3, None),
                        (None, None, None, 0, 1), (None, -7, 2, None, 0)))
        self.same(linked_tables(((0,),), ((0,),), (0,), (0,), ((0,),), ((BIG,),)), ((0, 0), (-BIG, 0)))
        for one, other, there, back in some_parts(150, 806):
            many = len(one[0])
            linked = linked_tables(one[0], other[0], one[2], other[2], there, back)
            self.same(is_table(linked), True)
            for x, y in itertools.product(range(len(linked)), repeat=2):
                if x < many and y < many:
                    want = one[0][x][y]
                elif x >= many and y >= many:
                    want = other[0][x - many][y - many]
                else:
                    duty = None
                    if x < many and x in one[2] and y - many in other[2]:
                        duty = there[one[2].index(x)][other[2].index(y - many)]
                    if y < many and y in one[2] and x - many in other[2]:
                        duty = back[other[2].index(x - many)][one[2].index(y)]
                    want = None if duty is None else -duty
                self.same(linked[x][y], want)

    def test_wrong_tables(self):
        call = [TWO, RING3, (0, 1), (0, 2), ((5, 1), (None, 0)), ((None, 7), (1, 2))]
        for at, word, values in ((1, "other", NOT_TUPLES + ((), ((0, 1),), ((1,),))), (2, "outer", ((), (2,), (1, 0))),
                                 (3, "far", ((), (3,), (2, 0))), (4, "there", ((), ((5, 1),), ((5,), (1,)), ((5, -1), (0, 0)))),
                                 (5, "back", ((), ((5, 1),), ((5,), (1,)), ((5, True), (0, 0)), ((5, 1), [0, 0])))):
            for value in values:
                given = call[:at] + [value] + [None] * (5 - at)
                self.unusable(word, linked_tables, *given)

    def test_as_gains_of_linked_tables(self):
        # (G11), [82].
        found = [0, 0]
        for one, other, there, back in some_parts(500, 807):
            table = linked_tables(one[0], other[0], one[2], other[2], there, back)
            outer = one[2] + tuple(len(one[0]) + door for door in other[2])
            want = gains_of(table, one[1] + other[1], outer)
            got = linked_gains(gains_of(*one), gains_of(*other), there, back)
            self.same(got, want)
            found[got is None] += 1
        self.assertGreater(min(found), 60)

    def test_by_all_paths(self):
        source = chance(808)
        found = [0, 0]
        for k in range(500):
            one, other = source.randint(1, 3), source.randint(1, 2)
            args = (some_gains(source, one), some_gains(source, other), some_links(source, one, other, 4),
                    some_links(source, other, one, 4))
            got = linked_gains(*args)
            self.same(got, slow_linked(*args))
            found[got is None] += 1
        self.assertGreater(min(found), 60)

    def test_edges(self):
        # Paths that come to a door several times, worth just the duty or one more.
        one, other = ((-1, 2), (None, None)), ((3,),)
        self.same(linked_gains(one, other, ((None,), (2,)), ((3, None),)), ((-1, 2, 3), (None, None, None), (-1, 2, 3)))
        self.same(linked_gains(one, other, ((None,), (2,)), ((2, None),)), None)
        # One gain alone is a path; without duties across the parts stay as they are.
        self.same(linked_gains(one, other, ((None,), (None,)), ((None, None),)), ((-1, 2, None), (None, None, None), (None, None, 3)))
        self.same(linked_gains(((None,),), ((None,),), ((0,),), ((0,),)), ((None, None), (None, None)))
        eight = tuple((None,) * 8 for _ in range(8))
        self.same(len(linked_gains(eight, eight, eight, eight)), 16)
        # Where one is None, the duties are not looked at.
        for value in NOT_TUPLES + ((), ((0,),)):
            self.same([linked_gains(None, other, value, value), linked_gains(one, None, value, value),
                       linked_gains(None, None, value, value)], [None] * 3)
        for value in NOT_TUPLES + ((), ((0,),), ((0,), (0,), (0,)), ((0, 0), (0, 0)), ((0,), [0]), ((0,), (-1,)), ((True,), (0,))):
            self.unusable("there", linked_gains, one, other, value, None)
        for value in NOT_TUPLES + ((), ((0,),), ((0, 0), (0, 0)), ((0, -1),), ([0, 0],)):
            self.unusable("back", linked_gains, one, other, ((0,), (0,)), value)

    def test_three_parts_in_any_grouping(self):
        # [82]: linked from one on, or from the other end on; the outer doors come in another sequence.
        source = chance(809)
        found = [0, 0]
        for _ in range(200):
            sizes = [source.randint(1, 2) for _ in range(3)]
            parts = []
            for size in sizes:
                table = some_table(source, size)
                parts.append((table, tuple(source.randint(0, 5) for _ in range(size)), tuple(range(size))))
            links = {(a, b): some_links(source, sizes[a], sizes[b], gaps=0.6) for a in range(3) for b in range(3) if a != b}
            gains = [gains_of(*part) for part in parts]
            one = linked_gains(gains[0], gains[1], links[0, 1], links[1, 0])
            first = linked_gains(one, gains[2], links[0, 2] + links[1, 2],
                                 tuple(a + b for a, b in zip(links[2, 0], links[2, 1])))
            two = linked_gains(gains[1], gains[2], links[1, 2], links[2, 1])
            second = linked_gains(gains[0], two, tuple(a + b for a, b in zip(links[0, 1], links[0, 2])),
                                  links[1, 0] + links[2, 0])
            self.same(first, second)
            found[first is None] += 1
        self.assertGreater(min(found), 15)


class Exchanges(Case):

    def told_apart(self, gains, other):
        """Just one of both is None with the part, by both linked gains."""
        table, waits, outer, there, back = telling_part(gains, other)
        own = gains_of(table, waits, outer)
        self.same(is_gains(len(outer), own), True)
        one, two = linked_gains(gains, own, there, back), linked_gains(other, own, there, back)
        self.same((one is None) != (two is None), True)
        self.same((one is None, two is None),
                  (slow_linked(gains, own, there, back) is None, slow_linked(other, own, there, back) is None))

    def test_told_apart(self):
        source = chance(810)
        apart = 0
        for k in range(500):
            size = 1 + k % 4
            gains, other = some_gains(source, size), some_gains(source, size)
            if k % 2 and gains is not None:
                # They differ at one place alone.
                at = (source.randrange(size), source.randrange(size))
                other = with_part(gains, at, source.choice((None, 0, 1, -9, BIG, -BIG)))
            self.same(same_gains(gains, other), gains == other)
            if gains == other:
                self.same(telling_part(gains, other), None)
            else:
                apart += 1
                self.told_apart(gains, other)
        self.assertGreater(apart, 300)

    def test_gains_of_tables(self):
        source = chance(811)
        for one, other, _, _ in some_parts(150, 812):
            if len(one[2]) == len(other[2]):
                gains, others = gains_of(*one), gains_of(*other)
                if not same_gains(gains, others):
                    self.told_apart(gains, others)
                    # (G11): then one of the linked tables is kept, and the other one barred.
                    table, waits, outer, there, back = telling_part(gains, others)
                    kept = [is_kept(linked_tables(part[0], table, part[2], outer, there, back), part[1] + waits)
                            for part in (one, other)]
                    self.same(sorted(kept), [False, True])

    def test_edges(self):
        self.same((same_gains(None, None), telling_part(None, None)), (True, None))
        for gains in (((None,),), ((0,),), ((-BIG,),), ((5, None), (None, 3)), ((9,) * 8,) * 8):
            self.same((same_gains(gains, None), same_gains(None, gains)), (False, False))
            self.told_apart(gains, None)
            self.told_apart(None, gains)
        self.told_apart(((None,),), ((0,),))
        self.told_apart(((-BIG,),), ((None,),))
        self.told_apart(((5,),), ((6,),))
        self.told_apart(((-6,),), ((-5,),))

    def test_same_gains_are_never_told_apart(self):
        # (G11): linked to any other part by any duties, both are kept or neither is.
        source = chance(813)
        for one, other, there, back in some_parts(100, 814):
            gains = gains_of(*one)
            part = (tuple(tuple(0 if x == y else gains[x][y] for y in range(len(gains))) for x in range(len(gains))),
                    tuple(-gains[x][x] for x in range(len(gains)))) if gains else None
            if part is None:
                continue
            # A table of the outer doors alone, its entries the gains and the waits at both ends.
            rows = tuple(tuple(0 if x == y else None if gain is None else gain + part[1][x] + part[1][y]
                               for y, gain in enumerate(row)) for x, row in enumerate(part[0]))
            lone = (rows, part[1], tuple(range(len(rows))))
            self.same(gains_of(*lone), gains)
            kept = [is_kept(linked_tables(some[0], other[0], some[2], other[2], there, back), some[1] + other[1])
                    for some in (one, lone)]
            self.same(kept[0], kept[1])


class Parts(Case):

    def test_methods(self):
        source = chance(815)
        for one, other, there, back in some_parts(150, 816):
            part, far = Part(*one), Part(*other)
            self.same(part.told(), one)
            self.same((part.kept(), part.gains()), (is_kept(*one[:2]), gains_of(*one)))
            linked = part.linked(far, there, back)
            self.assertIs(linked.__class__, Part)
            self.same(linked.told(), (linked_tables(one[0], other[0], one[2], other[2], there, back), one[1] + other[1],
                                      one[2] + tuple(len(one[0]) + door for door in other[2])))
            self.same(linked.gains(), linked_gains(part.gains(), far.gains(), there, back))
            self.same(part.linked(other=far, there=there, back=back) == linked, True)
            lot = some_outer(source, len(one[2]))
            inner = part.inner(lot)
            self.same(inner.told(), one[:2] + (tuple(one[2][k] for k in lot),))
            self.same(inner.gains(), kept_gains(part.gains(), lot))
            self.same((part.told(), far.told()), (one, other))
        slack = [slow_slack(RING3, (2, 2, 1), ring) for ring in slow_rings(RING3)]
        self.same((Part(RING3, (2, 2, 1), (0,)).kept(), min(slack) < 0), (False, True))

    def test_equal(self):
        part = Part(TWO, (1, 2), (0,))
        self.assertTrue(part == Part(TWO, (1, 2), (0,)) and not part != Part(TWO, (1, 2), (0,)))
        for other in (Part(TWO, (1, 2), (1,)), Part(TWO, (2, 1), (0,)), Part(((0, 2), (None, 0)), (1, 2), (0,)), part.told(),
                      None, 0, "part", (part,)):
            self.assertTrue(part != other and not part == other)

    def test_wrong(self):
        for value in NOT_TUPLES + ((), ((0, 1),), ((1,),), ((0, True), (1, 0)), [[0]]):
            self.unusable("table", Part, value, None, None)
        for value in NOT_TUPLES + ((), (1,), (1, -1), (1, True)):
            self.unusable("waits", Part, TWO, value, None)
        for value in NOT_TUPLES + ((), (2,), (1, 0), (0, 0)):
            self.unusable("outer", Part, TWO, (1, 2), value)
        part = Part(TWO, (1, 2), (0, 1))
        for value in NOT_TUPLES + (TWO, part.told(), (part,)):
            self.unusable("other", part.linked, value, None, None)
        self.unusable("there", part.linked, part, ((0, 0),), None)
        self.unusable("back", part.linked, part, ((0, 0), (0, 0)), ((0, -1), (0, 0)))
        for value in NOT_TUPLES + ((), (2,), (1, 0), (0, 0)):
            self.unusable("lot", part.inner, value)
        for value in NOT_NUMBERS:
            self.unusable("lot", part.inner, (value,))
            self.unusable("waits", Part, TWO, with_item((1, 2), 0, value), (0,))
