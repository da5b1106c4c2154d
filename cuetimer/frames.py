"""Frames and their labels, one to one.

A numbering is a tuple (base, leave, every), a label a tuple
(hours, minutes, seconds, frames). The place of a label is its number among
all labels, those that are left out being counted, too; the frame is its
number among those that are not left out.
"""

from cuetimer.errors import NoLabel
from cuetimer.kinds import is_whole


def is_label(numbering, thing):
    return has_form(numbering, thing) and not is_left_out(numbering, thing)


def label_of(numbering, frame):
    base = numbering[0]
    place = frame + numbering[1] * gaps_before_frame(numbering, frame)
    second = place // base
    minute = second // 60
    return (minute // 60, minute % 60, second % 60, place % base)


def frame_of(numbering, label):
    if not is_label(numbering, label):
        # The thing itself is not shown: it may be whatever there is, and not every thing can be.
        raise NoLabel("this is no label of the numbering")
    minute = minute_of(label)
    place = (60 * minute + label[2]) * numbering[0] + label[3]
    # What is no label is refused above, so this one lies behind the gap of its own minute.
    gaps = minute - minute // numbering[2]
    return place - numbering[1] * gaps


def has_form(numbering, thing):
    if not isinstance(thing, tuple) or len(thing) != 4:
        return False
    if not all([is_whole(part) and part >= 0 for part in thing]):
        return False
    return thing[1] < 60 and thing[2] < 60 and thing[3] < numbering[0]


def is_left_out(numbering, label):
    if minute_of(label) % numbering[2] == 0:
        return False
    return label[2] == 0 and label[3] < numbering[1]


def minute_of(label):
    return 60 * label[0] + label[1]


def gaps_before_frame(numbering, frame):
    # Minutes come in rounds of a whole one and every - 1 with a gap, so no walk is needed for great frames.
    whole = 60 * numbering[0]
    short = whole - numbering[1]
    gaps_in_round = numbering[2] - 1
    length = whole + gaps_in_round * short
    gaps = frame // length * gaps_in_round
    rest = frame % length
    if rest < whole:
        return gaps
    return gaps + 1 + (rest - whole) // short
