"""Why events of open houses are not let.

The state of an open house is a quintuple (plan, asks, news, held, now). Its news have None also where a way leads
and the record has not come.
"""

from bestunmoved.askkinds import need_asks
from bestunmoved.helpers import need
from bestunmoved.judging import is_kept
from bestunmoved.kinds import is_below, is_number, is_numbers, is_sized, is_span
from bestunmoved.liveevents import is_event
from bestunmoved.plans import is_suited, limit_from, need_plan
from bestunmoved.tables import table_of


def record_reason(house, state, event):
    """Why a record, of an event that is one, does not come or is not held; or None."""
    word, deed, place = event
    _, asks, news, held, _ = state
    if deed >= len(asks):
        return "deed"
    own = house[2][asks[deed][0]][0]
    if place >= len(house[0]) or place == own or house[0][own][place] is None:
        return "place"
    if news[deed][place] is not None:
        return "come"
    return "held" if word == "hold" and (deed, place) in held else None


def told_moments(house, grain, place, now):
    """For each door the moment at which it has heard from the place at the latest, or None."""
    ways = [house[0][place][door[0]] for door in house[2]]
    return [None if way is None else now + grain * way for way in ways]


def change_reason(house, grain, state, event):
    """Why a change, of an event that is one, is not let; or None."""
    _, place, waits, stamps, limit = event
    plan, _, _, _, now = state
    table = table_of(house)
    if place >= len(house[0]):
        return "place"
    if not is_numbers(len(table), waits) or not is_kept(table, waits):
        return "waits"
    if not is_suited(table, waits, stamps):
        return "stamps"
    moments = told_moments(house, grain, place, now)
    if None in moments:
        return "untold"
    if limit < limit_from(grain, plan, moments):
        return "limit"
    return "many" if len(plan) >= 4 else None


def reason_by(house, grain, state, event):
    """Why the event, any value, is not let in the state; or None."""
    if not is_event(event):
        return "shape"
    word = event[0]
    if word == "ask":
        return "door" if event[1] >= len(house[2]) else None
    if word == "wait":
        return None
    return change_reason(house, grain, state, event) if word == "change" else record_reason(house, state, event)


def is_open_row(house, door, thing):
    """Whether thing is the news of an ask at the door, perhaps None also where a way leads."""
    place = house[2][door][0]
    ways = house[0][place]
    if not is_sized(len(ways), thing) or not all([is_span(entry) for entry in thing]):
        return False
    return thing[place] == 0 and not any([way is None and entry is not None for way, entry in zip(ways, thing)])


def are_open_news(house, asks, thing):
    """Whether thing is such news of the asks."""
    return is_sized(len(asks), thing) and all([is_open_row(house, ask[0], row) for ask, row in zip(asks, thing)])


def is_record(house, asks, thing):
    """Whether thing is a pair of one of the asks and a place."""
    return is_sized(2, thing) and is_below(len(asks), thing[0]) and is_below(len(house[0]), thing[1])


def are_held(house, asks, thing):
    """Whether thing is an ascending tuple of such pairs."""
    if not isinstance(thing, tuple) or not all([is_record(house, asks, pair) for pair in thing]):
        return False
    return list(thing) == sorted(set(thing))


def reason_of(house, grain, plan, asks, news, held, now, event):
    """Why the event, any value, is not let, or None."""
    need_plan(table_of(house), grain, plan)
    need_asks(house, asks)
    need(are_open_news(house, asks, news), "news")
    need(are_held(house, asks, held), "held")
    need(is_number(now), "now")
    return reason_by(house, grain, (plan, asks, news, held, now), event)
