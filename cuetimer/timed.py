"""Cues timed by settings and cuts, alone or in two tongues, such that they are moved as little as can be."""

from cuetimer.errors import NoTiming
from cuetimer.least import least_timing
from cuetimer.rules import begin_point, end_point, price, rules_beside, rules_of


def timed_cues(settings, cues, cuts):
    times = least_times(len(cues), rules_of(settings, cues, cuts))
    return cues_at(times, cues, 0)


def timed_both(settings, ones, others, pairs, within, cuts):
    first = len(ones)
    rules = rules_of(settings, ones, cuts) + rules_of(settings, others, cuts, first)
    rules.extend(rules_beside([(pair[0], first + pair[1]) for pair in pairs], within))
    times = least_times(first + len(others), rules)
    return (cues_at(times, ones, 0), cues_at(times, others, first))


def least_price(settings, cues, cuts):
    rules = rules_of(settings, cues, cuts)
    return price(rules, least_times(len(cues), rules))


def least_times(how_many, rules):
    told = least_timing(2 * how_many, rules)
    if told[0] == "ring":
        raise NoTiming([rules[number][4] for number in told[1]])
    return told[1]


def cues_at(times, cues, first):
    return [cue_at(times, cue, number) for number, cue in enumerate(cues, start=first)]


def cue_at(times, cue, number):
    return (times[begin_point(number)], times[end_point(number)], cue[2], cue[3])
