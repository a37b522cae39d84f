"""Which deeds of a history are forced ahead of which."""

from bestunmoved.helpers import need, need_below, need_grain
from bestunmoved.historykinds import need_faultless, need_history
from bestunmoved.kinds import is_below


def row_steps(house, history):
    """The pairs of deeds that stand side by side in what some deed shows of a "row", as the keys of a dict."""
    steps = {}
    for deed in history:
        for book, numbers in zip(house[2][deed[0]][2], deed[3]):
            if house[1][book] == "row":
                for pair in zip(numbers, numbers[1:]):
                    steps[pair] = True
    return steps


def is_unshown(house, history, one, other):
    """Whether one does not show other in some book at which it looks and that other's door writes."""
    looks = house[2][history[one][0]][2]
    writes = house[2][history[other][0]][1]
    return any([book in writes and other not in numbers for book, numbers in zip(looks, history[one][3])])


def is_past_duty(house, grain, history, one, other):
    """Whether other was asked more than the duty after one was answered."""
    duty = house[3][history[one][0]][history[other][0]]
    return duty is not None and history[other][1] > history[one][2] + grain * duty


def words_between(house, grain, history, steps, one, other):
    """The words by which one is forced ahead of other, by the steps of rows."""
    words = []
    if any([one in numbers for numbers in history[other][3]]):
        words.append("shown")
    if is_unshown(house, history, one, other):
        words.append("unshown")
    if (one, other) in steps:
        words.append("row")
    if is_past_duty(house, grain, history, one, other):
        words.append("duty")
    return tuple(words)


def need_grain_history(house, grain, history):
    """The parameters grain and history have to be as stated, but for faults of the history."""
    need_grain(grain, "grain")
    need_history(house, history)


def forced_words(house, grain, history, one, other):
    """The words by which the deed one is forced ahead of the unlike deed other."""
    need_grain_history(house, grain, history)
    need_below(len(history), one, "one")
    need(is_below(len(history), other) and other != one, "other")
    need_faultless(house, history)
    return words_between(house, grain, history, row_steps(house, history), one, other)


def pairs_forced(house, grain, history):
    """All pairs (one, other) of deeds of a history without faults, one forced ahead of other, as a list, ascending."""
    steps = row_steps(house, history)
    pairs = []
    for one in range(len(history)):
        for other in range(len(history)):
            if one != other and words_between(house, grain, history, steps, one, other) != ():
                pairs.append((one, other))
    return pairs


def forced_pairs(house, grain, history):
    """All pairs (one, other) of deeds, one forced ahead of other, ascending."""
    need_grain_history(house, grain, history)
    need_faultless(house, history)
    return tuple(pairs_forced(house, grain, history))
