"""Known places: moments and cues moved by them.

Places are a list of pairs (old, new), both rising strictly.
"""

from cuetimer.errors import NoPlace, NoRoom
from cuetimer.kinds import is_whole, nearest


def moved(places, n):
    refuse_no_places(places)
    return moment_moved(places, n)


def turned(places):
    refuse_no_places(places)
    return [(pair[1], pair[0]) for pair in places]


def moved_cues(places, cues):
    refuse_no_places(places)
    return [cue_moved(places, cue, at) for at, cue in enumerate(cues)]


def refuse_no_places(things):
    if not are_places(things):
        raise NoPlace("these are no places")


def are_places(things):
    if not isinstance(things, list) or len(things) == 0:
        return False
    if not all([is_pair(thing) for thing in things]):
        return False
    return all([one[0] < other[0] and one[1] < other[1] for one, other in zip(things, things[1:])])


def is_pair(thing):
    return isinstance(thing, tuple) and len(thing) == 2 and is_whole(thing[0]) and is_whole(thing[1])


def moment_moved(places, n):
    if n <= places[0][0]:
        return n + way_of(places[0])
    for one, other in zip(places, places[1:]):
        if n <= other[0]:
            return moved_between(one, other, n)
    return n + way_of(places[-1])


def way_of(pair):
    return pair[1] - pair[0]


def moved_between(one, other, n):
    return one[1] + nearest((n - one[0]) * (other[1] - one[1]), other[0] - one[0])


def cue_moved(places, cue, at):
    begin = moment_moved(places, cue[0])
    end = moment_moved(places, cue[1])
    if begin < 0 or begin == end:
        raise NoRoom(at)
    return (begin, end, cue[2], cue[3])
