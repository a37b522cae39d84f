"""Events and logs as lines, and back."""

from bestunmoved.errors import InvalidRow, InvalidText
from bestunmoved.fields import check_fields, integer_told, is_signed_figures, signed_figures
from bestunmoved.helpers import need
from bestunmoved.housereadings import is_figures, number_told
from bestunmoved.housetexts import figures
from bestunmoved.liveevents import is_event, is_log


def waits_fields(waits, stamps):
    """The fields of waits and stamps."""
    return ["waits"] + [figures(wait) for wait in waits] + ["stamps"] + [signed_figures(stamp) for stamp in stamps]


def line_by(event):
    """The line of an event that is one."""
    if event[0] != "change":
        return " ".join([event[0]] + [figures(number) for number in event[1:]])
    word, place, waits, stamps, limit = event
    return " ".join([word, figures(place)] + waits_fields(waits, stamps) + ["limit", signed_figures(limit)])


def event_line(event):
    """The event as a line."""
    need(is_event(event), "event")
    return line_by(event)


def log_text(log):
    """The lines of the log's events, parted by newlines."""
    need(is_log(log), "log")
    return "\n".join([line_by(event) for event in log])


def word_at(line, fields, start, word, signed):
    """The place from start on at which the word stands; ahead of it stand numbers, if signed integers."""
    for at in range(start, len(fields)):
        if fields[at] == word:
            return at
        if not is_figures(fields[at]) and not (signed and is_signed_figures(fields[at])):
            raise InvalidText(line, at)
    raise InvalidText(line, len(fields))


def told_change(line, fields):
    """The change that the fields tell."""
    begin = [True] + [is_figures(field) for field in fields[1:2]] + [field == "waits" for field in fields[2:3]]
    check_fields(line, fields[:3], begin, 3)
    middle = word_at(line, fields, 3, "stamps", False)
    end = word_at(line, fields, middle + 1, "limit", True)
    last = [is_signed_figures(field) for field in fields[end + 1:end + 2]]
    check_fields(line, fields, [True] * (end + 1) + last, end + 2)
    waits = tuple([number_told(field) for field in fields[3:middle]])
    stamps = tuple([integer_told(field) for field in fields[middle + 1:end]])
    return ("change", number_told(fields[1]), waits, stamps, integer_told(fields[end + 1]))


def told_event(line, text):
    """The event that the text of a line tells."""
    fields = text.split(" ")
    word = fields[0]
    if word == "change":
        return told_change(line, fields)
    many = 3 if word == "come" or word == "hold" else 2
    is_known = word == "ask" or word == "wait" or many == 3
    check_fields(line, fields, [is_known] + [is_figures(field) for field in fields[1:many]], many)
    numbers = tuple([number_told(field) for field in fields[1:]])
    if word == "wait" and numbers[0] == 0:
        raise InvalidRow(line)
    return (word,) + numbers


def read_event(text):
    """The event of a line."""
    need(isinstance(text, str), "text")
    return told_event(0, text)


def read_log(text):
    """The log of such lines."""
    need(isinstance(text, str), "text")
    if text == "":
        return ()
    return tuple([told_event(line, row) for line, row in enumerate(text.split("\n"))])
