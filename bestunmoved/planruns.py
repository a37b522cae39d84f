"""Runs by plans."""

from bestunmoved.askkinds import need_asks, need_news
from bestunmoved.plans import answer_by, need_plan, triple_by
from bestunmoved.spoils import unlike_deeds
from bestunmoved.stampruns import known_run
from bestunmoved.standings import ahead_lists, run_of
from bestunmoved.tables import table_of


def plan_answers(house, grain, plan, asks):
    """When each deed is answered, as a list."""
    table = table_of(house)
    return [answer_by(table, grain, plan, door, moment) for door, moment in asks]


def plan_order(grain, plan, asks):
    """The order of all deeds by triple, then stamp, then door, then number."""
    places = []
    for deed, (door, moment) in enumerate(asks):
        triple = triple_by(grain, plan, door, moment)
        places.append((triple, moment + grain * plan[triple][1][door], door, deed))
    return tuple([place[3] for place in sorted(places)])


def run_by_plan(house, grain, plan, asks, news):
    """The history by the plan with these news, in which None may also tell that a record has not come."""
    return known_run(house, asks, plan_answers(house, grain, plan, asks), news, plan_order(grain, plan, asks))


def spoilt_by_plan(house, grain, plan, asks, news):
    """The lot of the deeds that show something else than with all records known."""
    answers = plan_answers(house, grain, plan, asks)
    due = run_of(house, asks, answers, ahead_lists(plan_order(grain, plan, asks)))
    return unlike_deeds(due, run_by_plan(house, grain, plan, asks, news))


def need_planned(house, grain, plan, asks):
    """The parameters grain, plan and asks have to be as stated."""
    need_plan(table_of(house), grain, plan)
    need_asks(house, asks)


def plan_standing(house, grain, plan, asks):
    """The order of all deeds as they stand."""
    need_planned(house, grain, plan, asks)
    return plan_order(grain, plan, asks)


def plan_run(house, grain, plan, asks, news):
    """The history by the plan with these news."""
    need_planned(house, grain, plan, asks)
    need_news(house, asks, news)
    return run_by_plan(house, grain, plan, asks, news)


def plan_spoilt(house, grain, plan, asks, news):
    """The lot of the deeds with spoilt answers."""
    need_planned(house, grain, plan, asks)
    need_news(house, asks, news)
    return spoilt_by_plan(house, grain, plan, asks, news)
