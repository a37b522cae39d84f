"""The checkers of barring rings of hours and of day stamps."""

from bestunmoved.dayarcs import need_dayrows, word_by_day
from bestunmoved.dayjudge import day_costs
from bestunmoved.errors import InvalidPaper
from bestunmoved.kinds import is_below, is_integer, is_integers, is_sized
from bestunmoved.rings import ring_steps
from bestunmoved.stamps import unsuited_pair


def hour_word(many, earlier, step):
    """The word of what is wrong with a step behind the earlier ones, or None."""
    if not is_sized(2, step):
        return "step"
    if not is_below(many, step[0]) or step[0] in [door for door, _ in earlier]:
        return "door"
    return None if is_integer(step[1]) else "hour"


def lets_day_ring(dayhouse, dayrows, thing):
    """The doors of the ring; InvalidPaper unless thing is a barring ring of hours."""
    need_dayrows(dayhouse, dayrows)
    if not isinstance(thing, tuple) or len(thing) < 2:
        raise InvalidPaper("shape", -1)
    for at, step in enumerate(thing):
        word = hour_word(len(dayhouse[3]), thing[:at], step)
        if word is not None:
            raise InvalidPaper(word, at)
    for at, (one, other) in enumerate(ring_steps(thing)):
        if word_by_day(dayhouse, dayrows, one, other) is None:
            raise InvalidPaper("ahead", at)
    return tuple([step[0] for step in thing])


def lets_day_stamps(dayhouse, dayrows, thing):
    """What thing is; InvalidPaper unless it is day stamps that suit."""
    need_dayrows(dayhouse, dayrows)
    day = dayhouse[0]
    if not is_sized(len(dayhouse[3]), thing):
        raise InvalidPaper("shape", -1)
    for door, row in enumerate(thing):
        if not is_integers(day, row):
            raise InvalidPaper("row", door)
    costs = day_costs(dayhouse, dayrows)
    pair = unsuited_pair(costs, [stamp for row in thing for stamp in row])
    if pair is not None:
        raise InvalidPaper("pair", pair // len(costs) // day)
    return thing
