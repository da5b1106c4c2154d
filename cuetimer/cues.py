"""Cues, and cues as texts.

A cue is a tuple (begin, end, hand, words); cues are a list of such, whose
begins don't fall.
"""

from cuetimer.errors import NoCue, NoTime
from cuetimer.kinds import are_words, is_name, is_whole


def is_cue(thing):
    if not isinstance(thing, tuple) or len(thing) != 4:
        return False
    if not is_whole(thing[0]) or not is_whole(thing[1]):
        return False
    return 0 <= thing[0] < thing[1] and is_name(thing[2]) and are_words(thing[3])


def are_cues(things):
    if not isinstance(things, list) or not all([is_cue(thing) for thing in things]):
        return False
    return all([one[0] <= other[0] for one, other in zip(things, things[1:])])


def show_cues(clock, cues):
    return "\n".join([show_row(clock, cue) for cue in cues])


def show_row(clock, cue):
    return " ".join([clock.show(cue[0]), clock.show(cue[1]), cue[2], cue[3]])


def read_cues(clock, text):
    if not isinstance(text, str):
        raise NoCue(1)
    cues = []
    for number, row in enumerate(rows_of(text), start=1):
        cue = read_row(clock, row, number)
        if cues and cue[0] < cues[-1][0]:
            raise NoCue(number)
        cues.append(cue)
    return cues


def rows_of(text):
    # The text without signs has no row, not one row without signs.
    return text.split("\n") if text else []


def read_row(clock, row, number):
    parts = row.split(" ", 3)
    if len(parts) != 4:
        raise NoCue(number)
    try:
        cue = (clock.read(parts[0]), clock.read(parts[1]), parts[2], parts[3])
    except NoTime:
        raise NoCue(number) from None
    if not is_cue(cue):
        raise NoCue(number)
    return cue
