"""A timing of the least price, with a flow that shows that none costs less.

A flow is a list with a number for each rule: what goes through the rule from
its low point to its high one. As much comes to each point as goes from it.
"""

from cuetimer.keeping import keeping
from cuetimer.kinds import is_whole
from cuetimer.rules import broken, is_timing, must_be_kept, price
from cuetimer.trees import Tree


def least_timing(many, rules):
    kept = keeping(many, rules)
    if kept[0] == "ring":
        return kept
    tree = Tree(kept[1], rules)
    tree.settle()
    return ("timed", tree.timing(), tree.flow_of_rules())


def lets_by(many, rules, times, flow):
    if not is_timing(many, times) or not is_flow(many, rules, flow):
        return False
    return broken(rules, times) == [] and worth(rules, flow) == price(rules, times)


def is_flow(many, rules, flow):
    if not isinstance(flow, list) or len(flow) != len(rules):
        return False
    if not all([may_go_through(rule, number) for rule, number in zip(rules, flow)]):
        return False
    over = [0] * (many + 1)
    for rule, number in zip(rules, flow):
        over[rule[0]] -= number
        over[rule[1]] += number
    return all([rest == 0 for rest in over])


def may_go_through(rule, number):
    if not is_whole(number) or number < 0:
        return False
    return must_be_kept(rule) or number <= rule[3]


def worth(rules, flow):
    return sum([rule[2] * number for rule, number in zip(rules, flow)])
