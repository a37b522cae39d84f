"""Slow readings of the definitions of [5] and [6], and histories by chance."""

import itertools

from tests.helpers import SHOP, chance, some_house

MET = ((0, 0, 2, ()), (1, 3, 3, ((0,),)))
MISSED = ((0, 0, 2, ()), (1, 3, 3, ((),)))

# Three places, a "row" and a "lot": a writer of both, one that looks at both and writes the lot (so it looks at a
# book that it writes itself), one that looks at the row alone, one that does nothing.
CLUB = (((0, 1, 3), (2, 0, 2), (None, None, 0)), ("row", "lot"),
        ((0, (0, 1), ()), (1, (1,), (0, 1)), (2, (), (0,)), (0, (), ())),
        ((0, 2, None, 1), (3, 0, 0, None), (None, 4, 0, 1), (0, 0, 0, 0)))
CLUB_RUN = ((0, 0, 1, ()), (0, 1, 2, ()), (1, 2, 5, ((0, 1), (0, 1))), (2, 3, 3, ((0,),)),
            (1, 3, 6, ((0, 1), (0, 1, 2))), (3, 9, 9, ()))


def books_of(house, door):
    """The books that the door looks at."""
    return house[2][door][2]


def writes(house, door, book):
    """Whether the door writes the book."""
    return book in house[2][door][1]


def slow_fault(house, history):
    """The first fault by the definition."""
    for at, (door, _, _, shown) in enumerate(history):
        for book, numbers in zip(books_of(house, door), shown):
            for word in ("none", "writes", "own", "twice"):
                for number in numbers:
                    there = number < len(history)
                    if {"none": not there, "writes": there and not writes(house, history[number][0], book),
                            "own": number == at, "twice": numbers.count(number) > 1}[word]:
                        return (at, book, word)
    return None


def slow_words(house, grain, history, one, other):
    """The words by which one is forced ahead of other by the definition."""
    door, _, answered, shown = history[one]
    later, asked, _, others = history[other]
    words = []
    if any(one in numbers for numbers in others):
        words.append("shown")
    for book, numbers in zip(books_of(house, door), shown):
        if writes(house, later, book) and other not in numbers and "unshown" not in words:
            words.append("unshown")
    for deed in history:
        for book, numbers in zip(books_of(house, deed[0]), deed[3]):
            for at in range(len(numbers) - 1):
                if house[1][book] == "row" and numbers[at:at + 2] == (one, other) and "row" not in words:
                    words.append("row")
    duty = 0 if door == later else house[3][door][later]
    if duty is not None and asked > answered + grain * duty:
        words.append("duty")
    return tuple(words)


def slow_pairs(house, grain, history):
    """All pairs forced by the definition."""
    many = range(len(history))
    return tuple((x, y) for x in many for y in many if x != y and slow_words(house, grain, history, x, y))


def slow_shown(house, deeds, door, ahead):
    """What a deed of the door shows if the deeds of ahead, in their sequence, stand ahead of it."""
    shown = []
    for book in books_of(house, door):
        numbers = [d for d in ahead if writes(house, deeds[d][0], book)]
        shown.append(tuple(sorted(numbers)) if house[1][book] == "lot" else tuple(numbers))
    return tuple(shown)


def slow_is_order(house, grain, history, order):
    """Whether the order is one of the history by the definition in [5]."""
    for at, d in enumerate(order):
        if history[d][3] != slow_shown(house, history, history[d][0], order[:at]):
            return False
        for e in order[at + 1:]:
            duty = house[3][history[e][0]][history[d][0]]
            if duty is not None and history[d][1] > history[e][2] + grain * duty:
                return False
    return True


def slow_orders(house, grain, history):
    """All orders of the history, ascending."""
    return [order for order in itertools.permutations(range(len(history)))
            if slow_is_order(house, grain, history, order)]


def some_deeds(source, house, many, late=4):
    """As many deeds, without what they show."""
    deeds = []
    for _ in range(many):
        asked = source.randint(0, 8)
        deeds.append((source.randrange(len(house[2])), asked, asked + source.randint(0, late)))
    return tuple(deeds)


def some_shown(source, house, deeds, at):
    """Any books that the deed may show without a fault."""
    shown = []
    for book in books_of(house, deeds[at][0]):
        numbers = [d for d in range(len(deeds)) if d != at and writes(house, deeds[d][0], book)]
        numbers = source.sample(numbers, source.randint(0, len(numbers)))
        shown.append(tuple(sorted(numbers)) if house[1][book] == "lot" else tuple(numbers))
    return tuple(shown)


def some_history(source, house, many, wild=0.2):
    """A history without faults that some order leaves, but for deeds (about as often as wild) that show anything."""
    deeds = some_deeds(source, house, many)
    # By moments most of the time, so that duties are kept, too.
    order = sorted(range(many), key=lambda d: (deeds[d][1] if source.random() < 0.9 else 99, source.random()))
    history = []
    for at, deed in enumerate(deeds):
        if source.random() < wild:
            shown = some_shown(source, house, deeds, at)
        else:
            shown = slow_shown(house, deeds, deed[0], order[:order.index(at)])
        history.append(deed + (shown,))
    return tuple(history)


def seen_house(source, places=3, doors=3):
    """Any house of which some door looks at a book."""
    while True:
        house = some_house(source, places, doors)
        if any(door[2] for door in house[2]):
            return house


def some_histories(count, seed, most=4, wild=0.2):
    """As many houses, grains and histories without faults, of 0 to most deeds."""
    source = chance(seed)
    for k in range(count):
        house = SHOP if k % 7 == 0 else seen_house(source)
        yield house, source.randint(1, 3), some_history(source, house, k % (most + 1), wild)
