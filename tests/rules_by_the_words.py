"""[16], [20] and [22] word by word, and rules to try them with. Nothing here is drawn from the program."""

import random


def is_number(thing):
    return isinstance(thing, int) and not isinstance(thing, bool)


def keeps(times, rule):
    low, high, least, weight, why = rule
    return times[high] - times[low] >= least


def keeps_all(times, rules):
    return all(keeps(times, rule) for rule in rules if rule[3] is None)


def cost(times, rules):
    total = 0
    for rule in rules:
        if rule[3] is not None and not keeps(times, rule):
            total += rule[3] * (rule[2] - times[rule[1]] + times[rule[0]])
    return total


def can_be_kept(many, rules):
    """By the greatest sum of leasts from each point to each other one: above 0 from none to itself."""
    far = [[None] * (many + 1) for point in range(many + 1)]
    for low, high, least, weight, why in rules:
        if weight is None and (far[low][high] is None or far[low][high] < least):
            far[low][high] = least
    for middle in range(many + 1):
        for low in range(many + 1):
            for high in range(many + 1):
                if far[low][middle] is not None and far[middle][high] is not None:
                    through = far[low][middle] + far[middle][high]
                    if far[low][high] is None or far[low][high] < through:
                        far[low][high] = through
        if any(far[point][point] is not None and far[point][point] > 0 for point in range(many + 1)):
            return False
    return True


def is_a_ring(rules, numbers):
    if not isinstance(numbers, list) or not numbers:
        return False
    if any(not is_number(number) or number not in range(len(rules)) for number in numbers):
        return False
    for number, following in zip(numbers, numbers[1:] + numbers[:1]):
        if rules[number][3] is not None or rules[number][1] != rules[following][0]:
            return False
    if len({rules[number][0] for number in numbers}) < len(numbers):
        return False
    return sum(rules[number][2] for number in numbers) > 0


def is_a_flow(many, rules, flow):
    if not isinstance(flow, list) or len(flow) != len(rules):
        return False
    for rule, number in zip(rules, flow):
        if not is_number(number) or number < 0 or rule[3] is not None and number > rule[3]:
            return False
    for point in range(many + 1):
        come = sum(number for rule, number in zip(rules, flow) if rule[1] == point)
        gone = sum(number for rule, number in zip(rules, flow) if rule[0] == point)
        if come != gone:
            return False
    return True


def some_rules(seed, many, how_many, great, hard):
    """Rules by chance, the same for the same seed; of a hundred, as many as told must be kept."""
    chance = random.Random(seed)
    rules = []
    for number in range(how_many):
        weight = None if chance.randrange(100) < hard else chance.choice([0, 1, 2, 3, 50, 98, 99])
        rules.append((chance.randint(0, many), chance.randint(0, many), chance.randint(-great, great), weight,
                      ("rule", number)))
    return rules


def some_rules_that_can_be_kept(seed, many, how_many, great, hard):
    """The same, but a timing by chance keeps those that must be kept, some of them just."""
    chance = random.Random(seed)
    times = [0] + [chance.randint(-great, great) for point in range(many)]
    rules = []
    for low, high, least, weight, why in some_rules(seed, many, how_many, great, hard):
        if weight is None:
            least = times[high] - times[low] - chance.choice([0, 0, 1, chance.randint(0, great)])
        rules.append((low, high, least, weight, why))
    return rules
