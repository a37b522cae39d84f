"""Histories that are due by an order, and deeds that are answered late."""

from bestunmoved.helpers import need, need_grain, need_numbers
from bestunmoved.historykinds import is_deeds, need_faultless, need_history
from bestunmoved.kinds import is_order


def shown_of(house, deeds, door, sequence):
    """What a deed of the door shows of a sequence of deeds (tuples that begin with their doors), book by book."""
    shown = []
    for book in house[2][door][2]:
        numbers = [deed for deed in sequence if book in house[2][deeds[deed][0]][1]]
        shown.append(tuple(numbers if house[1][book] == "row" else sorted(numbers)))
    return tuple(shown)


def due_history(house, deeds, order):
    """The history of the deeds in which each one shows just those that stand ahead of it in order."""
    need(is_deeds(house, deeds), "deeds")
    need(is_order(len(deeds), order), "order")
    history = []
    for at, (door, asked, answered) in enumerate(deeds):
        history.append((door, asked, answered, shown_of(house, deeds, door, order[:order.index(at)])))
    return tuple(history)


def late_deeds(house, grain, waits, history):
    """The lot of the deeds answered more than the wait of their door after they were asked."""
    need_grain(grain, "grain")
    need_numbers(len(house[2]), waits, "waits")
    need_history(house, history)
    need_faultless(house, history)
    late = []
    for at, (door, asked, answered, _) in enumerate(history):
        if answered > asked + grain * waits[door]:
            late.append(at)
    return tuple(late)
