"""A timing that keeps all rules that must be kept, or a ring of rules that shows that there is none."""

from cuetimer.kinds import is_whole
from cuetimer.rules import must_be_kept


def keeping(many, rules):
    times = [0] * (many + 1)
    raisers = [None] * (many + 1)
    for walk in range(many + 1):
        raised = raise_points(rules, times, raisers)
        if raised is None:
            return ("kept", [moment - times[0] for moment in times])
    # Without a ring no point is raised by a row of more rules than there are other points.
    return ("ring", ring_above(rules, raisers, raised))


def is_ring(rules, numbers):
    if not isinstance(numbers, list) or len(numbers) == 0:
        return False
    if not all([is_whole(number) and 0 <= number < len(rules) for number in numbers]):
        return False
    ring = [rules[number] for number in numbers]
    lows = [rule[0] for rule in ring]
    highs = [rule[1] for rule in ring]
    if highs != lows[1:] + lows[:1] or len(set(lows)) != len(lows):
        return False
    return all([must_be_kept(rule) for rule in ring]) and sum([rule[2] for rule in ring]) > 0


def raise_points(rules, times, raisers):
    # Who was raised last is told, None once nobody is; by which rule each was raised is kept for the ring.
    raised = None
    for number, rule in enumerate(rules):
        if must_be_kept(rule) and times[rule[0]] + rule[2] > times[rule[1]]:
            times[rule[1]] = times[rule[0]] + rule[2]
            raisers[rule[1]] = number
            raised = rule[1]
    return raised


def ring_above(rules, raisers, point):
    # The way from raiser to raiser may be long until it comes into the ring, but no longer than there are points.
    for step in range(len(raisers)):
        point = rules[raisers[point]][0]
    ring = [raisers[point]]
    low = rules[raisers[point]][0]
    while low != point:
        ring.append(raisers[low])
        low = rules[raisers[low]][0]
    return list(reversed(ring))
