"""Plans: waits and stamps that change at limits."""

from bestunmoved.errors import InvalidPaper
from bestunmoved.helpers import need, need_below, need_grain, need_numbers
from bestunmoved.judging import waiting_costs
from bestunmoved.kinds import is_integer, is_integers, is_numbers, is_sized
from bestunmoved.stamps import unsuited_pair


def is_suited(table, waits, thing):
    """Whether thing is stamps that suit the waits."""
    return is_integers(len(table), thing) and unsuited_pair(waiting_costs(table, waits), thing) is None


def triple_word(table, last, triple):
    """The word of what is wrong with a triple, the last one or not; or None."""
    if not is_sized(3, triple):
        return "triple"
    waits, stamps, limit = triple
    if not is_numbers(len(table), waits):
        return "waits"
    if not is_suited(table, waits, stamps):
        return "stamps"
    fine = limit is None if last else is_integer(limit)
    return None if fine else "limit"


def changes_from(grain, triple):
    """The doors' changes from the triple to the next one."""
    return tuple([triple[2] - grain * stamp for stamp in triple[1]])


def changes_by(grain, plan):
    """For each triple of the plan but the last one the doors' changes from it, as a list."""
    return [changes_from(grain, triple) for triple in plan[:-1]]


def is_falling(earlier, later):
    """Whether some door's later change is less than its earlier one."""
    return any([change < before for before, change in zip(earlier, later)])


def plan_flaw(table, grain, thing):
    """The first pair (word, at) of what is wrong with thing as a plan, or None."""
    if not isinstance(thing, tuple) or len(thing) == 0:
        return ("shape", -1)
    for at, triple in enumerate(thing):
        word = triple_word(table, at == len(thing) - 1, triple)
        if word is not None:
            return (word, at)
    changes = changes_by(grain, thing)
    for at in range(1, len(changes)):
        if is_falling(changes[at - 1], changes[at]):
            return ("falls", at)
    return None


def need_plan(table, grain, plan):
    """The parameters grain and plan have to be a grain and a plan at it."""
    need_grain(grain, "grain")
    need(plan_flaw(table, grain, plan) is None, "plan")


def is_plan(table, grain, thing):
    """Whether thing is a plan of the table at the grain."""
    need_grain(grain, "grain")
    return plan_flaw(table, grain, thing) is None


def lets_plan(table, grain, thing):
    """How many triples there are; InvalidPaper unless thing is a plan."""
    need_grain(grain, "grain")
    flaw = plan_flaw(table, grain, thing)
    if flaw is not None:
        raise InvalidPaper(flaw[0], flaw[1])
    return len(thing)


def changes_of(table, grain, plan):
    """For each triple but the last one the doors' changes from it to the next one."""
    need_plan(table, grain, plan)
    return tuple(changes_by(grain, plan))


def triple_by(grain, plan, door, moment):
    """The place in the plan of the first triple whose change the moment does not pass, otherwise of the last one."""
    for at, changes in enumerate(changes_by(grain, plan)):
        if moment <= changes[door]:
            return at
    return len(plan) - 1


def answer_by(table, grain, plan, door, moment):
    """When a deed of the door asked at the moment is answered."""
    place = triple_by(grain, plan, door, moment)
    answers = [moment + grain * plan[place][0][door]]
    for changes in changes_by(grain, plan)[:place]:
        for other, entry in enumerate(table[door]):
            if other != door and entry is not None:
                answers.append(changes[other] + grain * entry)
    return max(answers)


def need_asked(table, grain, plan, door, moment):
    """All parameters of a deed's triple and answer have to be as stated."""
    need_plan(table, grain, plan)
    need_below(len(table), door, "door")
    need(is_integer(moment), "moment")


def triple_of(table, grain, plan, door, moment):
    """The place in the plan of the triple under which a deed of the door asked at the moment is."""
    need_asked(table, grain, plan, door, moment)
    return triple_by(grain, plan, door, moment)


def answer_of(table, grain, plan, door, moment):
    """When a deed of the door asked at the moment is answered."""
    need_asked(table, grain, plan, door, moment)
    return answer_by(table, grain, plan, door, moment)


def limit_from(grain, plan, moments):
    """The least limit of the last triple with which each door changes at its moment or later, and not falling."""
    bounds = list(moments)
    for changes in changes_by(grain, plan)[-1:]:
        bounds = [max(bound, change) for bound, change in zip(bounds, changes)]
    return max([grain * stamp + bound for stamp, bound in zip(plan[-1][1], bounds)])


def next_limit(table, grain, plan, moment):
    """The least limit that the last triple may get so that each door changes from it at the moment or later."""
    need_plan(table, grain, plan)
    need(is_integer(moment), "moment")
    return limit_from(grain, plan, [moment for _ in table])


def with_triple(plan, limit, waits, stamps):
    """The plan with the limit in its last triple, and the waits and stamps behind."""
    last = plan[-1]
    return plan[:-1] + ((last[0], last[1], limit), (waits, stamps, None))


def is_next_limit(grain, plan, limit):
    """Whether limit is an integer with which, in the last triple, no door's changes fall."""
    if not is_integer(limit):
        return False
    changes = changes_from(grain, (plan[-1][0], plan[-1][1], limit))
    return not any([is_falling(before, changes) for before in changes_by(grain, plan)[-1:]])


def extended(table, grain, plan, limit, waits, stamps):
    """The plan with the limit in its last triple, and the waits and stamps behind."""
    need_plan(table, grain, plan)
    need(is_next_limit(grain, plan, limit), "limit")
    need_numbers(len(table), waits, "waits")
    need(is_suited(table, waits, stamps), "stamps")
    return with_triple(plan, limit, waits, stamps)
