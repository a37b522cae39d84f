"""Histories changed: some doors alone, deeds named anew, other moments."""

from bestunmoved.helpers import need, need_full_lot, need_grain
from bestunmoved.historykinds import need_faultless, need_history
from bestunmoved.kinds import is_number, is_order


def shown_anew(house, door, shown, numbers):
    """What a deed of the door shows, with the deeds named by their new numbers."""
    anew = []
    for book, deeds in zip(house[2][door][2], shown):
        named = [numbers[deed] for deed in deeds]
        anew.append(tuple(named if house[1][book] == "row" else sorted(named)))
    return tuple(anew)


def history_kept(house, history, lot):
    """The history of the deeds whose doors are in lot, as one of the house with these doors alone."""
    need_history(house, history)
    need_full_lot(len(house[2]), lot)
    need_faultless(house, history)
    kept = [at for at, deed in enumerate(history) if deed[0] in lot]
    numbers = {old: new for new, old in enumerate(kept)}
    need(all([deed in numbers for at in kept for book in history[at][3] for deed in book]), "lot")
    deeds = []
    for at in kept:
        door, asked, answered, shown = history[at]
        deeds.append((lot.index(door), asked, answered, shown_anew(house, door, shown, numbers)))
    return tuple(deeds)


def renumbered(house, history, order):
    """The history in which each deed order[i] has the number i."""
    need_history(house, history)
    need(is_order(len(history), order), "order")
    need_faultless(house, history)
    numbers = {old: new for new, old in enumerate(order)}
    deeds = []
    for old in order:
        door, asked, answered, shown = history[old]
        deeds.append((door, asked, answered, shown_anew(house, door, shown, numbers)))
    return tuple(deeds)


def regrained(house, history, scale):
    """The history with all moments times scale."""
    need_history(house, history)
    need_grain(scale, "scale")
    need_faultless(house, history)
    return tuple([(door, asked * scale, answered * scale, shown) for door, asked, answered, shown in history])


def later_history(house, history, beats):
    """The history with all moments later by beats."""
    need_history(house, history)
    need(is_number(beats), "beats")
    need_faultless(house, history)
    return tuple([(door, asked + beats, answered + beats, shown) for door, asked, answered, shown in history])
