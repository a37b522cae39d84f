"""The checker of cheapest waits."""

from bestunmoved.cheapwaits import priced
from bestunmoved.dealings import is_dealing_by, worth_dealt
from bestunmoved.errors import InvalidPaper
from bestunmoved.helpers import need_numbers
from bestunmoved.judging import waiting_costs
from bestunmoved.kinds import is_integers, is_numbers, is_sized
from bestunmoved.stamps import unsuited_pair


def deal_word(table, rates, thing):
    """The word of the first thing that is wrong with thing, or None."""
    if not is_sized(3, thing):
        return "shape"
    waits, stamps, dealing = thing
    if not is_numbers(len(table), waits):
        return "waits"
    if not is_integers(len(table), stamps):
        return "stamps"
    if unsuited_pair(waiting_costs(table, waits), stamps) is not None:
        return "suit"
    if not is_dealing_by(table, rates, dealing):
        return "dealing"
    return None if priced(rates, waits) == worth_dealt(table, dealing) else "cost"


def lets_deal(table, rates, thing):
    """The cost; InvalidPaper unless thing is waits, stamps and a dealing that prove each other best."""
    need_numbers(len(table), rates, "rates")
    word = deal_word(table, rates, thing)
    if word is not None:
        raise InvalidPaper(word, -1)
    return priced(rates, thing[0])
