"""Histories: what they are, and their faults."""

from bestunmoved.errors import Misshown
from bestunmoved.helpers import need
from bestunmoved.kinds import is_below, is_number, is_sized


def times_word(doors, deed):
    """The word of what is wrong with the door, of so many, and the moments of a deed; or None."""
    if not is_below(doors, deed[0]):
        return "door"
    if not is_number(deed[1]):
        return "asked"
    return None if is_number(deed[2]) and deed[2] >= deed[1] else "answered"


def are_deeds(doors, thing):
    """Whether thing is a tuple of triples (door, asked, answered), of so many doors."""
    if not isinstance(thing, tuple):
        return False
    return all([is_sized(3, deed) and times_word(doors, deed) is None for deed in thing])


def is_deeds(house, thing):
    """Whether thing is a tuple of triples (door, asked, answered) of doors of the house."""
    return are_deeds(len(house[2]), thing)


def is_shown_in(kind, thing):
    """Whether thing is numbers of deeds, in a "lot" ascending."""
    if not isinstance(thing, tuple) or not all([is_number(deed) for deed in thing]):
        return False
    return kind == "row" or list(thing) == sorted(set(thing))


def is_shown(house, door, thing):
    """Whether thing has, for each book that the door looks at, such numbers of deeds."""
    looks = house[2][door][2]
    if not is_sized(len(looks), thing):
        return False
    return all([is_shown_in(house[1][book], numbers) for book, numbers in zip(looks, thing)])


def deed_word(house, deed):
    """The word of what is wrong with the form of a deed, or None."""
    if not is_sized(4, deed):
        return "deed"
    word = times_word(len(house[2]), deed)
    if word is None and not is_shown(house, deed[0], deed[3]):
        return "shown"
    return word


def history_flaw(house, thing):
    """The first pair (word, at) of what is wrong with the form of thing as a history, or None."""
    if not isinstance(thing, tuple):
        return ("shape", -1)
    for at, deed in enumerate(thing):
        word = deed_word(house, deed)
        if word is not None:
            return (word, at)
    return None


def is_history(house, thing):
    """Whether thing is a history of the house, with or without faults."""
    return history_flaw(house, thing) is None


def book_word(house, history, at, book, numbers):
    """The first word of a fault in what the deed at shows in the book, or None."""
    if any([number >= len(history) for number in numbers]):
        return "none"
    if any([book not in house[2][history[number][0]][1] for number in numbers]):
        return "writes"
    if at in numbers:
        return "own"
    return "twice" if len(set(numbers)) < len(numbers) else None


def fault_of(house, history):
    """The first fault (deed, book, word) of the history, or None."""
    for at, deed in enumerate(history):
        for book, numbers in zip(house[2][deed[0]][2], deed[3]):
            word = book_word(house, history, at, book, numbers)
            if word is not None:
                return (at, book, word)
    return None


def need_history(house, history):
    """The parameter history has to be a history of the house, with or without faults."""
    need(is_history(house, history), "history")


def need_faultless(house, history):
    """Raises Misshown with the first fault of the history, if there is one."""
    fault = fault_of(house, history)
    if fault is not None:
        raise Misshown(fault[0], fault[1], fault[2])


def first_fault(house, history):
    """The first fault (deed, book, word) of the history, or None."""
    need_history(house, history)
    return fault_of(house, history)
