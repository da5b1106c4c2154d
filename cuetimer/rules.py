"""Rules: what a timing must keep, and what it had better keep, at a price.

Point 0 is the beginning, point 2 c + 1 the begin of cue c, point 2 c + 2 its
end; a timing is a list of the moments of the points. A rule is a tuple
(low, high, least, weight, why): the moment of high less that of low is to be
at least the least. One whose weight is None must be kept.
"""

from cuetimer.kinds import is_whole


def rules_of(settings, cues, cuts, first=0):
    rules = []
    for place, cue in enumerate(cues):
        number = first + place
        rules.extend(rules_alone(settings, cue, number))
        rules.extend(wishes(settings, cue, number))
        rules.extend(rules_behind(settings, cues, place, number))
        for k, cut in enumerate(cuts):
            rules.extend(rules_of_cut(settings["shy"], cue, number, k, cut))
    return rules


def rules_beside(pairs, within):
    rules = []
    for c, d in pairs:
        rules.append((begin_point(c), begin_point(d), -within, None, ("begins", c, d)))
        rules.append((begin_point(d), begin_point(c), -within, None, ("begins", d, c)))
        rules.append((end_point(c), end_point(d), -within, None, ("ends", c, d)))
        rules.append((end_point(d), end_point(c), -within, None, ("ends", d, c)))
    return rules


def broken(rules, times):
    return [number for number, rule in enumerate(rules) if must_be_kept(rule) and lacking(rule, times) > 0]


def price(rules, times):
    return sum([rule[3] * lacking(rule, times) for rule in rules if not must_be_kept(rule)])


def must_be_kept(rule):
    return rule[3] is None


def lacking(rule, times):
    return max(0, rule[2] - (times[rule[1]] - times[rule[0]]))


def is_timing(many, thing):
    if not isinstance(thing, list) or len(thing) != many + 1:
        return False
    return all([is_whole(moment) for moment in thing]) and thing[0] == 0


def begin_point(number):
    return 2 * number + 1


def end_point(number):
    return 2 * number + 2


def rules_alone(settings, cue, number):
    begin = begin_point(number)
    end = end_point(number)
    length = max(settings["least"], settings["sign"] * len(cue[3]))
    return [
        (0, begin, 0, None, ("start", number)),
        (begin, end, length, None, ("long", number)),
        (end, begin, -settings["most"], None, ("most", number)),
    ]


def wishes(settings, cue, number):
    begin = begin_point(number)
    end = end_point(number)
    why = ("wish", number)
    # Two rules for each wish, for to come too late costs as much as to come too early.
    return [
        (0, begin, cue[0], settings["begin"], why),
        (begin, 0, -cue[0], settings["begin"], why),
        (0, end, cue[1], settings["end"], why),
        (end, 0, -cue[1], settings["end"], why),
    ]


def rules_behind(settings, cues, place, number):
    rules = []
    if place + 1 < len(cues):
        rules.append((begin_point(number), begin_point(number + 1), 0, None, ("order", number, number + 1)))
    for way in range(1, len(cues) - place):
        if cues[place + way][2] == cues[place][2]:
            other = number + way
            rules.append((end_point(number), begin_point(other), settings["apart"], None, ("apart", number, other)))
            break
    return rules


def rules_of_cut(shy, cue, number, k, cut):
    begin = begin_point(number)
    end = end_point(number)
    if cue[0] <= cut - shy and cut + shy <= cue[1]:
        return [
            (begin, 0, shy - cut, None, ("early", number, k)),
            (0, end, cut + shy, None, ("late", number, k)),
        ]
    if cue[0] + cue[1] <= 2 * cut:
        return [(end, 0, -cut, None, ("ahead", number, k))]
    return [(0, begin, cut, None, ("behind", number, k))]
