"""Slow readings of the definitions of [6], [57] and [61]: a post office that goes moment by moment."""

from tests.helpers import SHOP, chance
from tests.slowdeeds import books_of, seen_house, writes

# In this house letters of door 0 go to place 1; nobody writes book 1; door 2 sees itself.
POST = (((0, 2, None), (1, 0, None), (4, 3, 0)), ("row", "lot", "lot"),
        ((0, (0,), ()), (1, (), (0, 1)), (1, (0, 2), (0, 2)), (2, (), ())),
        ((0, 1, 1, None), (0, 0, 2, 3), (1, 1, 0, None), (None, 0, 0, 0)))
POST_ASKS = ((0, 0), (2, 1), (0, 1), (1, 3), (2, 3), (3, 4), (1, 9))


def place_of(house, door):
    """The place of the door."""
    return house[2][door][0]


def post_office(house, asks, news, answers):
    """For each deed what is known at its place at its answer: pairs (moment at which it came, deed).

    Each moment at which something happens is gone through: asks first, then letters, then answers.
    """
    moments = [moment for _, moment in asks] + list(answers)
    moments += [moment + entry for (_, moment), row in zip(asks, news) for entry in row if entry is not None]
    known = {place: [] for place in range(len(house[0]))}
    found = {}
    for now in sorted(set(moments)):
        for deed, (door, moment) in enumerate(asks):
            if moment == now:
                known[place_of(house, door)].append((now, deed))
        for deed, (door, moment) in enumerate(asks):
            for place, entry in enumerate(news[deed]):
                if place != place_of(house, door) and entry is not None and moment + entry == now:
                    known[place].append((now, deed))
        for deed, (door, _) in enumerate(asks):
            if answers[deed] == now:
                found[deed] = sorted(known[place_of(house, door)])
    return found


def slow_answers(grain, waits, asks):
    """When each deed is answered."""
    return [moment + grain * waits[door] for door, moment in asks]


def slow_order(grain, stamps, asks):
    """The deeds by stamp, then door, then number."""
    return tuple(sorted(range(len(asks)), key=lambda d: (asks[d][1] + grain * stamps[asks[d][0]], asks[d][0], d)))


def put_together(house, asks, answers, sequences):
    """The history in which each deed shows those of its sequence that write the book."""
    history = []
    for deed, (door, moment) in enumerate(asks):
        shown = []
        for book in books_of(house, door):
            numbers = [d for d in sequences[deed] if writes(house, asks[d][0], book)]
            shown.append(tuple(sorted(numbers)) if house[1][book] == "lot" else tuple(numbers))
        history.append((door, moment, answers[deed], tuple(shown)))
    return tuple(history)


def slow_run(house, grain, waits, stamps, asks, news):
    """The run by waits and stamps."""
    answers = slow_answers(grain, waits, asks)
    order = slow_order(grain, stamps, asks)
    known = post_office(house, asks, news, answers)
    sequences = []
    for deed in range(len(asks)):
        there = [d for _, d in known[deed]]
        sequences.append([d for d in order if order.index(d) < order.index(deed) and d in there])
    return put_together(house, asks, answers, sequences)


def slow_due(house, grain, waits, stamps, asks):
    """What is due: the same with all records known."""
    order = slow_order(grain, stamps, asks)
    sequences = [order[:order.index(deed)] for deed in range(len(asks))]
    return put_together(house, asks, slow_answers(grain, waits, asks), sequences)


def slow_program(house, grain, program, asks, news):
    """The run by a program."""
    answers = slow_answers(grain, [wait for _, wait, _ in program], asks)
    order = slow_order(grain, [shift for _, _, shift in program], asks)
    known = post_office(house, asks, news, answers)
    sequences = []
    for deed, (door, _) in enumerate(asks):
        there = [d for _, d in known[deed]]
        sequences.append({
            "stamp": [d for d in order[:order.index(deed)] if d in there],
            "known": [d for d in there if d != deed],
            "asked": [d for d in range(deed) if d in there],
            "here": [d for d in range(deed) if d in there and place_of(house, asks[d][0]) == place_of(house, door)],
        }[program[door][0]])
    return put_together(house, asks, answers, sequences)


def slow_cut(house, grain, waits, stamps, asks, place, moment):
    """The cut by its definition."""
    lookers = [x for x, door in enumerate(house[2]) if door[0] == place and door[2]]
    if not lookers:
        return None
    seen = [y for y in range(len(house[2])) if any(writes(house, y, b) for x in lookers for b in books_of(house, x))]
    cuts = [moment + 1 + grain * stamps[x] for x in lookers]
    cuts += [moment + 1 + grain * stamps[y] - grain * house[0][place_of(house, y)][place] for y in seen]
    cuts += [asked + grain * stamps[x] for x, asked in asks
             if x in lookers and asked <= moment < asked + grain * waits[x]]
    return min(cuts)


def some_asks(source, house, many, last=12):
    """As many asks, several of them perhaps in one moment."""
    moments = sorted(source.randint(0, last) for _ in range(many))
    return tuple((source.randrange(len(house[2])), moment) for moment in moments)


def some_news(source, house, grain, asks, late):
    """News, about as often late as late tells."""
    rows = []
    for door, _ in asks:
        row = []
        for way in house[0][place_of(house, door)]:
            if way is None:
                row.append(None)
            elif source.random() < late:
                row.append(grain * way + source.randint(1, 4))
            else:
                row.append(source.randint(0, grain * way))
        row[place_of(house, door)] = 0
        rows.append(tuple(row))
    return tuple(rows)


def some_runs(count, seed, most=7, late=0.3):
    """As many runs: houses, grains, waits, stamps (suiting or not), asks and news."""
    source = chance(seed)
    for k in range(count):
        house = SHOP if k % 9 == 0 else POST if k % 9 == 1 else seen_house(source, doors=4)
        grain = source.randint(1, 3)
        waits = tuple(source.randint(0, 4) for _ in house[2])
        stamps = tuple(source.randint(-3, 3) for _ in house[2])
        asks = some_asks(source, house, k % (most + 1))
        yield house, grain, waits, stamps, asks, some_news(source, house, grain, asks, late)


def some_program(source, house, waits):
    """Any program with these waits."""
    words = ("stamp", "known", "asked", "here")
    return tuple((source.choice(words), wait, source.randint(-3, 3)) for wait in waits)
