"""States of open houses, as in reasons, and what events make of them."""

from bestunmoved.planruns import plan_answers
from bestunmoved.plans import with_triple


def first_state(waits, stamps):
    """The state in which an open house begins."""
    return (((waits, stamps, None),), (), (), (), 0)


def after_ask(house, state, door):
    """The state behind an ask at the door."""
    plan, asks, news, held, now = state
    own = house[2][door][0]
    row = tuple([0 if place == own else None for place in range(len(house[0]))])
    return (plan, asks + ((door, now),), news + (row,), held, now)


def is_coming(state, deed, place, latest, end):
    """Whether the deed's record comes to the place by itself ahead of the moment end, at its latest moment."""
    if latest is None or state[2][deed][place] is not None or (deed, place) in state[3]:
        return False
    return state[1][deed][1] + latest < end


def after_wait(house, grain, state, beats):
    """The state behind as many beats."""
    plan, asks, _, held, now = state
    rows = []
    for deed, row in enumerate(state[2]):
        ways = house[0][house[2][asks[deed][0]][0]]
        lates = [None if way is None else grain * way for way in ways]
        rows.append(tuple([late if is_coming(state, deed, place, late, now + beats) else entry
                           for place, (late, entry) in enumerate(zip(lates, row))]))
    return (plan, asks, tuple(rows), held, now + beats)


def after_come(state, deed, place):
    """The state in which the deed's record has come to the place, now."""
    plan, asks, news, held, now = state
    row = list(news[deed])
    row[place] = now - asks[deed][1]
    more = news[:deed] + (tuple(row),) + news[deed + 1:]
    return (plan, asks, more, tuple([pair for pair in held if pair != (deed, place)]), now)


def after_hold(state, deed, place):
    """The state in which the deed's record is held at the place."""
    plan, asks, news, held, now = state
    return (plan, asks, news, tuple(sorted(held + ((deed, place),))), now)


def after_change(state, waits, stamps, limit):
    """The state in which the plan is extended."""
    return (with_triple(state[0], limit, waits, stamps), state[1], state[2], state[3], state[4])


def state_after(house, grain, state, event):
    """The state behind an event that is let."""
    word = event[0]
    if word == "ask":
        return after_ask(house, state, event[1])
    if word == "wait":
        return after_wait(house, grain, state, event[1])
    if word == "come":
        return after_come(state, event[1], event[2])
    if word == "hold":
        return after_hold(state, event[1], event[2])
    return after_change(state, event[2], event[3], event[4])


def waiting_in(house, grain, state):
    """The lot of the deeds that are unanswered in the state.

    The moment at which a deed is due has to end: then it is answered.
    """
    plan, asks, _, _, now = state
    return tuple([deed for deed, due in enumerate(plan_answers(house, grain, plan, asks)) if due >= now])
