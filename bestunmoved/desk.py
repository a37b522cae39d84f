"""The desk of an open house: a line is asked or done, and a line is told."""

from bestunmoved.eventtexts import read_event, waits_fields
from bestunmoved.fields import check_fields, list_field, signed_figures
from bestunmoved.helpers import need
from bestunmoved.housereadings import is_figures, number_told
from bestunmoved.housetexts import figures
from bestunmoved.live import LiveHouse


def blank_line(numbers):
    """The numbers by blanks, "-" for none."""
    return " ".join([figures(number) for number in numbers]) if len(numbers) > 0 else "-"


def plan_line(plan):
    """The triples of the plan."""
    pieces = []
    for waits, stamps, limit in plan:
        told = "-" if limit is None else signed_figures(limit)
        pieces.append(" ".join(waits_fields(waits, stamps) + ["limit", told]))
    return "; ".join(pieces)


def shown_line(shown):
    """What a deed shows, book by book."""
    if shown is None:
        return "waits"
    return " ".join([list_field(deeds) for deeds in shown]) if len(shown) > 0 else "-"


def answer_alone(live, word):
    """The answer to a word that stands alone."""
    if word == "now":
        return figures(live.now())
    if word == "plan":
        return plan_line(live.plan_now())
    return blank_line(live.waiting() if word == "waiting" else live.spoilt())


def answer_of_deed(live, fields):
    """The answer to a word about a deed."""
    many = len(live.asks_now())
    check_fields(0, fields, [True] + [is_figures(field) and number_told(field) < many for field in fields[1:2]], 2)
    deed = number_told(fields[1])
    return figures(live.due_at(deed)) if fields[0] == "due" else shown_line(live.shown(deed))


def desk_line(live, text):
    """What the desk answers to a line: an event, which is done, or a word that asks."""
    need(isinstance(live, LiveHouse), "live")
    need(isinstance(text, str), "text")
    fields = text.split(" ")
    if fields[0] in ("now", "waiting", "spoilt", "plan"):
        check_fields(0, fields, [True], 1)
        return answer_alone(live, fields[0])
    if fields[0] == "due" or fields[0] == "shown":
        return answer_of_deed(live, fields)
    deed = live.go(read_event(text))
    return "done" if deed is None else "deed " + figures(deed)
