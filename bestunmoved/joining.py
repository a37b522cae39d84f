"""Orders of the parts joined into one order of all deeds."""

from bestunmoved.helpers import need, need_grain
from bestunmoved.historykinds import are_deeds
from bestunmoved.orders import least_order, reversed_place
from bestunmoved.partings import names_of, need_parting
from bestunmoved.permutations import is_order_of


def duty_pairs(duties, grain, deeds):
    """All pairs (one, other) of deeds, other asked more than the duty after one was answered, as a list."""
    pairs = []
    for one, (door, _, answered) in enumerate(deeds):
        for other, (later, asked, _) in enumerate(deeds):
            duty = duties[door][later]
            if one != other and duty is not None and asked > answered + grain * duty:
                pairs.append((one, other))
    return pairs


def is_part_order(parting, deeds, pairs, part, thing):
    """Whether thing is an order of the deeds of the part's doors that keeps all duties within it."""
    own = [deed for deed in range(len(deeds)) if parting[deeds[deed][0]] == part]
    if not is_order_of(own, thing):
        return False
    return reversed_place(thing, [pair for pair in pairs if pair[0] in own and pair[1] in own]) is None


def are_part_orders(parting, deeds, pairs, thing):
    """Whether thing has such an order for each part, by the least doors."""
    parts = names_of(parting)
    if not isinstance(thing, tuple) or len(thing) != len(parts):
        return False
    return all([is_part_order(parting, deeds, pairs, part, order) for part, order in zip(parts, thing)])


def joined_order(duties, grain, parting, deeds, orders):
    """Any order of all deeds that keeps all duties and has those of each part as its order tells; or None."""
    need_grain(grain, "grain")
    need_parting(len(duties), parting)
    need(are_deeds(len(duties), deeds), "deeds")
    pairs = duty_pairs(duties, grain, deeds)
    need(are_part_orders(parting, deeds, pairs, orders), "orders")
    for order in orders:
        pairs.extend(list(zip(order, order[1:])))
    joined = least_order(len(deeds), pairs)
    return tuple(joined) if len(joined) == len(deeds) else None
