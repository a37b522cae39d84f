"""Slow readings of plans in [10], and plans by chance."""

from bestunmoved.tables import table_of
from tests.helpers import SHOP, chance, slow_kept, slow_suits
from tests.slowdeeds import seen_house
from tests.slowruns import POST, post_office, put_together, some_asks, some_news


def slow_change(grain, triple, door):
    """When the door changes from the triple to the next one."""
    return triple[2] - grain * triple[1][door]


def slow_triple(grain, plan, door, moment):
    """The first triple whose change the moment does not pass, otherwise the last one."""
    for k, triple in enumerate(plan):
        if triple[2] is None or moment <= slow_change(grain, triple, door):
            return k
    return None


def slow_answer(table, grain, plan, door, moment):
    """When the deed is answered, by the sums."""
    own = slow_triple(grain, plan, door, moment)
    best = moment + grain * plan[own][0][door]
    for k in range(own):
        for other in range(len(table)):
            if other != door and table[door][other] is not None:
                best = max(best, slow_change(grain, plan[k], other) + grain * table[door][other])
    return best


def slow_plan_order(grain, plan, asks):
    """The deeds by triple, then stamp, then door, then number."""
    def key(deed):
        door, moment = asks[deed]
        k = slow_triple(grain, plan, door, moment)
        return (k, moment + grain * plan[k][1][door], door, deed)
    return tuple(sorted(range(len(asks)), key=key))


def slow_plan_run(house, grain, plan, asks, news):
    """The run by a post office, and what is due."""
    answers = [slow_answer(table_of(house), grain, plan, door, moment) for door, moment in asks]
    order = slow_plan_order(grain, plan, asks)
    known = post_office(house, asks, news, answers)
    ahead = [order[:order.index(deed)] for deed in range(len(asks))]
    sequences = [[d for d in ahead[deed] if d in [one for _, one in known[deed]]] for deed in range(len(asks))]
    return put_together(house, asks, answers, sequences), put_together(house, asks, answers, ahead)


def some_kept(source, table, high=None):
    """Any kept waits, with any stamps that suit them."""
    many = len(table)
    most = source.choice((0, 1, 5)) if high is None else high
    for more in range(99):
        waits = tuple(source.randint(0, most + more) for _ in range(many))
        if slow_kept(table, waits):
            break
    stamps = tuple(0 for _ in range(many))
    while not slow_suits(table, waits, stamps):
        # By the entries, from least stamps on, as [7] says them.
        stamps = tuple(max([stamps[y]] + [stamps[x] - waits[x] + table[x][y] for x in range(many)
                                          if x != y and table[x][y] is not None]) for y in range(many))
    for _ in range(6):
        tried = tuple(stamp + source.randint(-2, 2) for stamp in stamps)
        if slow_suits(table, waits, tried):
            stamps = tried
    return waits, stamps


def some_plan(source, table, grain, many, low=0, high=6):
    """Any plan of as many triples, its changes from low on, about so far apart."""
    triples = [some_kept(source, table) for _ in range(many)]
    plan = []
    changes = [low for _ in table]
    for waits, stamps in triples[:-1]:
        least = max(grain * stamp + change for stamp, change in zip(stamps, changes))
        limit = least + source.randint(0, high)
        changes = [limit - grain * stamp for stamp in stamps]
        plan.append((waits, stamps, limit))
    return tuple(plan) + (triples[-1] + (None,),)


def some_plans(count, seed, low=0):
    """As many houses, grains and plans of one to four triples."""
    source = chance(seed)
    for k in range(count):
        house = SHOP if k % 5 == 0 else POST if k % 5 in (1, 2) else seen_house(source, doors=4)
        grain = source.randint(1, 3)
        yield house, grain, some_plan(source, table_of(house), grain, 1 + k % 4, source.randint(low, 5))


def some_plan_runs(count, seed, late=0.3, most=8):
    """As many runs by plans."""
    source = chance(seed)
    for house, grain, plan in some_plans(count, seed + 1):
        asks = some_asks(source, house, source.randint(0, most), 16)
        yield house, grain, plan, asks, some_news(source, house, grain, asks, late)
