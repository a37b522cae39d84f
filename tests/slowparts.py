"""Slow readings of [10]: all partings, all ends and begins of all tuples of parts, all sequences of deeds."""

import itertools

from tests.helpers import some_rows

HOP = ((0, 3, 1), (None, 0, None), (None, 1, 0))


def all_partings(size):
    """All partings of size things, by the definition: each thing is named by the least one of its block."""
    for names in itertools.product(range(size), repeat=size):
        blocks = {name: [at for at in range(size) if names[at] == name] for name in names}
        if all(min(block) == name for name, block in blocks.items()):
            yield names


def some_parting(source, size, most=6):
    """Any parting with at most so many parts."""
    many = source.randint(1, most)
    names = [source.randrange(many) for _ in range(size)]
    return tuple(names.index(name) for name in names)


def some_duties(source, size, high=4, gaps=0.25):
    """Any duties."""
    return some_rows(source, size, 0, high, gaps)


def slow_sum(spans):
    """The sum, None if it is endless."""
    spans = list(spans)
    return None if None in spans else sum(spans)


def is_more(one, other):
    """Whether the one sum is above the other one; endless is above all numbers, not above endless."""
    return other is not None and (one is None or one > other)


def slow_within(duties, pairs):
    """The duties from each end to the begin of its own pair."""
    return slow_sum(duties[e][b] for e, b in pairs)


def slow_across(duties, pairs):
    """The duties from each end to the begin of the next pair."""
    return slow_sum(duties[pairs[k][0]][pairs[(k + 1) % len(pairs)][1]] for k in range(len(pairs)))


def slow_unsafe(duties, parting):
    """All tuples of pairs, each in one part, no two in the same one, with within above across."""
    doors = range(len(duties))
    lots = {name: [x for x in doors if parting[x] == name] for name in parting}
    for many in range(2, len(lots) + 1):
        for names in itertools.permutations(sorted(lots), many):
            for pairs in itertools.product(*(itertools.product(lots[name], repeat=2) for name in names)):
                if is_more(slow_within(duties, pairs), slow_across(duties, pairs)):
                    yield pairs


def slow_safe(duties, parting):
    """Whether the duties are safe."""
    return next(slow_unsafe(duties, parting), None) is None


def slow_owes(duties, grain, deeds, one, other):
    """Whether other was asked more than the duty after one was answered."""
    duty = duties[deeds[one][0]][deeds[other][0]]
    return duty is not None and deeds[other][1] > deeds[one][2] + grain * duty


def slow_keeps(duties, grain, deeds, order):
    """Whether a tuple of deeds keeps all duties."""
    return not any(slow_owes(duties, grain, deeds, order[later], order[at])
                   for later in range(len(order)) for at in range(later))


def slow_joined(duties, grain, parting, deeds, orders):
    """All orders of all deeds that keep all duties and have those of the parts in these sequences."""
    names = sorted(set(parting))
    for order in itertools.permutations(range(len(deeds))):
        parts = tuple(tuple(d for d in order if parting[deeds[d][0]] == name) for name in names)
        if parts == orders and slow_keeps(duties, grain, deeds, order):
            yield order


def some_parts_deeds(source, size, many, last=9):
    """As many deeds of so many doors, without what they show."""
    deeds = []
    for _ in range(many):
        asked = source.randint(0, last)
        deeds.append((source.randrange(size), asked, asked + source.randint(0, 3)))
    return tuple(deeds)
