"""Words broken into two sides, a cue parted into two, and two cues joined."""

from cuetimer.errors import NoJoin, NoParting
from cuetimer.parting import break_price


def best_break(words):
    many = len(words.split(" "))
    if many == 1:
        raise NoParting("one word alone has no break")
    prices = [price_of_sides(sides_of(words, n)) for n in range(1, many)]
    # The first of several that cost the same is found, and the first break is number 1.
    return prices.index(min(prices)) + 1


def part_cue(cue, n):
    if not 1 <= n < len(cue[3].split(" ")):
        raise NoParting("there is no such break")
    sides = sides_of(cue[3], n)
    left = len(sides[0])
    middle = cue[0] + (cue[1] - cue[0]) * left // (left + len(sides[1]))
    if middle == cue[0]:
        raise NoParting("the cue is too short to be parted")
    return ((cue[0], middle, cue[2], sides[0]), (middle, cue[1], cue[2], sides[1]))


def join_cues(one, other):
    if one[2] != other[2]:
        raise NoJoin("two hands speak")
    if other[0] < one[1]:
        raise NoJoin("the second cue begins ahead of the end of the first")
    return (one[0], other[1], one[2], one[3] + " " + other[3])


def sides_of(words, n):
    parts = words.split(" ")
    return (" ".join(parts[:n]), " ".join(parts[n:]))


def price_of_sides(sides):
    difference = len(sides[0]) - len(sides[1])
    return break_price(sides[0]) + difference * difference
