"""Frames and moments, and both as texts.

A rate is a pair (many, per): many frames in per seconds. A moment is a whole
number of thousandths of a second.
"""

from cuetimer.errors import NoTime
from cuetimer.frames import frame_of, is_label, label_of
from cuetimer.kinds import are_figures, nearest


def begin_of(rate, frame):
    top = frame * rate[1]
    common = common_measure(top, rate[0])
    return (top // common, rate[0] // common)


def moment_of(rate, frame):
    return nearest(1000 * frame * rate[1], rate[0])


def frame_near(rate, moment):
    return nearest(moment * rate[0], 1000 * rate[1])


def frame_on(rate, moment):
    return moment * rate[0] // (1000 * rate[1])


def show_moment(moment):
    second = moment // 1000
    minute = second // 60
    return show_parts((minute // 60, minute % 60, second % 60, moment % 1000), ".", 3)


def read_moment(text):
    parts = read_parts(text, ".", 3)
    second = 60 * (60 * parts[0] + parts[1]) + parts[2]
    return 1000 * second + parts[3]


def show_frame(numbering, frame):
    return show_parts(label_of(numbering, frame), frame_sign(numbering), frame_figures(numbering))


def read_frame(numbering, text):
    label = read_parts(text, frame_sign(numbering), frame_figures(numbering))
    if not is_label(numbering, label):
        raise NoTime("the numbering has no such label")
    return frame_of(numbering, label)


def common_measure(one, other):
    while other != 0:
        rest = one % other
        one = other
        other = rest
    return one


def frame_sign(numbering):
    return ";" if numbering[1] > 0 else ":"


def frame_figures(numbering):
    return max(2, len(str(numbering[0] - 1)))


def show_parts(parts, sign, figures):
    hours = str(parts[0]).zfill(2)
    minutes = str(parts[1]).zfill(2)
    seconds = str(parts[2]).zfill(2)
    last = str(parts[3]).zfill(figures)
    return f"{hours}:{minutes}:{seconds}{sign}{last}"


def read_parts(text, sign, figures):
    if not isinstance(text, str):
        raise NoTime("this is no text")
    hours = text.partition(":")
    minutes = hours[2].partition(":")
    seconds = minutes[2].partition(sign)
    # A sign that is wanting leaves the part behind it empty, one too many stays within a part: neither is figures.
    if not (are_hours(hours[0]) and are_sixtieths(minutes[0]) and are_sixtieths(seconds[0])):
        raise NoTime("these are no hours, minutes and seconds")
    if not has_figures(seconds[2], figures):
        raise NoTime("the figures behind the seconds are none, too few or too many")
    return (int(hours[0]), int(minutes[0]), int(seconds[0]), int(seconds[2]))


def are_hours(text):
    if has_figures(text, 2):
        return True
    return 3 <= len(text) <= 20 and are_figures(text) and text[0] != "0"


def are_sixtieths(text):
    return has_figures(text, 2) and int(text) < 60


def has_figures(text, figures):
    return len(text) == figures and are_figures(text)
