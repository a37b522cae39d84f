"""Programs: by what each door shows deeds."""

from bestunmoved.askkinds import need_asks, need_news
from bestunmoved.helpers import need, need_grain, need_numbers, need_stamps
from bestunmoved.kinds import is_integer, is_number, is_sized
from bestunmoved.news import is_known
from bestunmoved.stampruns import known_ahead
from bestunmoved.standings import answers_by, beat_stamps, order_by, run_of


def is_word(thing):
    """Whether thing is a word of a program."""
    return thing == "stamp" or thing == "known" or thing == "asked" or thing == "here"


def is_program_part(thing):
    """Whether thing is what a program has for a door."""
    return is_sized(3, thing) and is_word(thing[0]) and is_number(thing[1]) and is_integer(thing[2])


def is_program(house, thing):
    """Whether thing is a program."""
    return is_sized(len(house[2]), thing) and all([is_program_part(part) for part in thing])


def need_program(house, program):
    """The parameter program has to be a program."""
    need(is_program(house, program), "program")


def stamp_program(house, waits, stamps):
    """The program in which each door has "stamp", its wait and its stamp."""
    need_numbers(len(house[2]), waits, "waits")
    need_stamps(len(house[2]), stamps)
    return tuple([("stamp", wait, stamp) for wait, stamp in zip(waits, stamps)])


def waits_by(program):
    """The waits of a program that is one."""
    return tuple([part[1] for part in program])


def waits_of(house, program):
    """The waits of the program."""
    need_program(house, program)
    return waits_by(program)


def by_coming(asks, news, deeds, place):
    """The deeds by the moment at which they came to the place, then number."""
    return [deed for _, deed in sorted([(asks[deed][1] + news[deed][place], deed) for deed in deeds])]


def known_sequence(house, asks, news, order, deed, answered, word):
    """The deeds from which the deed, answered then, shows by the word, in their sequence."""
    place = house[2][asks[deed][0]][0]
    if word == "stamp":
        return known_ahead(asks, news, order, deed, place, answered)
    known = [one for one in range(len(asks)) if one != deed and is_known(asks, news, one, place, answered)]
    if word == "known":
        return by_coming(asks, news, known, place)
    lesser = [one for one in known if one < deed]
    return lesser if word == "asked" else [one for one in lesser if house[2][asks[one][0]][0] == place]


def programmed_run(house, grain, program, asks, news):
    """The history by the program with these news, all of which are such."""
    order = order_by(beat_stamps(grain, [part[2] for part in program], asks), asks)
    answers = answers_by(grain, waits_by(program), asks)
    sequences = []
    for deed, answered in enumerate(answers):
        word = program[asks[deed][0]][0]
        sequences.append(known_sequence(house, asks, news, order, deed, answered, word))
    return run_of(house, asks, answers, sequences)


def program_run(house, grain, program, asks, news):
    """The history by the program with these news."""
    need_grain(grain, "grain")
    need_program(house, program)
    need_asks(house, asks)
    need_news(house, asks, news)
    return programmed_run(house, grain, program, asks, news)
