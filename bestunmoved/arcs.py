"""Moments that are surely ahead of each other, by a house."""

from bestunmoved.helpers import need, need_grain, need_numbers
from bestunmoved.kinds import is_below, is_integer, is_sized
from bestunmoved.sights import hears, sees


def is_moment(many, thing):
    """Whether thing is a pair of one of many doors and an integer."""
    return is_sized(2, thing) and is_below(many, thing[0]) and is_integer(thing[1])


def word_ahead(house, grain, answered, moment, other):
    """How moment, answered then, is surely ahead of other, of an unlike door; or None."""
    door, asked = moment
    looker, later = other
    if sees(house, door, looker) and later + grain * hears(house, door, looker) > answered:
        return "sight"
    duty = house[3][door][looker]
    return "duty" if duty is not None and later > answered + grain * duty else None


def ahead_word(house, grain, waits, moment, other):
    """How moment is surely ahead of other: "own", "sight", "duty" or None."""
    many = len(house[2])
    need_grain(grain, "grain")
    need_numbers(many, waits, "waits")
    need(is_moment(many, moment), "moment")
    need(is_moment(many, other), "other")
    answered = moment[1] + grain * waits[moment[0]]
    if moment[0] == other[0]:
        return "own" if other[1] > answered else None
    return word_ahead(house, grain, answered, moment, other)
