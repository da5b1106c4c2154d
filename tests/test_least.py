"""The least price: [22] and [23], and [2] to [4] as far as they speak of them."""

import copy
import itertools
import time
import unittest

from cuetimer.least import is_flow, least_timing, lets_by, worth
from cuetimer.rules import price, rules_of
from tests.odd_things import Hostile, no_texts
from tests.rules_by_the_words import (can_be_kept, cost, is_a_flow, is_a_ring, is_number, keeps_all, some_rules,
                                      some_rules_that_can_be_kept)

GREAT = 10 ** 18


def rule(low, high, least, weight=None):
    return (low, high, least, weight, ("rule", low, high))


def wish(point, moment, weight):
    return [rule(0, point, moment, weight), rule(point, 0, -moment, weight)]


def told_worth(rules, flow):
    return sum(one[2] * number for one, number in zip(rules, flow))


class Timed(unittest.TestCase):
    def check(self, many, rules):
        """What is told is right by its own words: since no worth is above a price, none costs less. The price is told."""
        told = least_timing(many, rules)
        self.assertIs(type(told), tuple)
        if not can_be_kept(many, rules):
            self.assertEqual((told[0], len(told)), ("ring", 2))
            self.assertIs(type(told[1]), list)
            self.assertTrue(is_a_ring(rules, told[1]), (many, rules, told))
            return None
        self.assertEqual((told[0], len(told)), ("timed", 3))
        self.check_timed(many, rules, told[1], told[2])
        return cost(told[1], rules)

    def check_timed(self, many, rules, times, flow):
        self.assertIs(type(times), list)
        self.assertIs(type(flow), list)
        self.assertEqual([type(number) for number in times + flow], [int] * (many + 1 + len(rules)))
        self.assertEqual(times[0], 0)
        self.assertTrue(keeps_all(times, rules), (many, rules, times))
        self.assertTrue(is_a_flow(many, rules, flow), (many, rules, flow))
        self.assertEqual(told_worth(rules, flow), cost(times, rules), (many, rules, times, flow))
        self.assertIs(is_flow(many, rules, flow), True)
        self.assertEqual(worth(rules, flow), price(rules, times))
        self.assertIs(lets_by(many, rules, times, flow), True)

    def test_no_rules(self):
        self.assertEqual(least_timing(0, []), ("timed", [0], []))
        for many in (0, 1, 7, 200):
            self.assertEqual(self.check(many, []), 0)

    def test_wishes_of_one_point(self):
        moments = [0, 3, -4, 10, 11, 9 * 10 ** 17]
        for many in (1, 2, 3):
            for chosen in itertools.combinations(moments, many):
                for weights in itertools.product((0, 1, 2, 99), repeat=many):
                    rules = sum([wish(1, moment, weight) for moment, weight in zip(chosen, weights)], [])
                    best = min(cost([0, moment], rules) for moment in moments)
                    self.assertEqual(self.check(1, rules), best)

    def test_wishes_of_one_point_within_bounds(self):
        for low, high in [(0, 5), (4, 4), (-3, 20), (12, 13), (GREAT, GREAT)]:
            bounds = [rule(0, 1, low), rule(1, 0, -high)]
            for first, second in itertools.product((-5, 0, 5, 14), repeat=2):
                for one, other in itertools.product((0, 1, 3), repeat=2):
                    rules = bounds + wish(1, first, one) + wish(1, second, other)
                    best = min(cost([0, moment], rules) for moment in (low, high, first, second) if low <= moment <= high)
                    self.assertEqual(self.check(1, rules), best)
                    self.assertEqual(self.check(1, rules[::-1]), best)

    def test_against_a_search_over_small_moments(self):
        searched = 0
        for seed in range(400):
            many = 1 + seed % 3
            maker = (some_rules, some_rules_that_can_be_kept)[seed % 2]
            rules = maker(seed, many, 2 + seed % 9, 2, 30)
            told = self.check(many, rules)
            # A best timing has each point at the end of a row of rules that are kept just: no further than this.
            reach = range(-2 * many, 2 * many + 1)
            if maker is some_rules_that_can_be_kept:
                reach = range(-5 * many, 5 * many + 1)
            prices = [cost([0, *times], rules) for times in itertools.product(reach, repeat=many)
                      if keeps_all([0, *times], rules)]
            self.assertEqual(told, min(prices, default=None), (many, rules))
            searched += told is not None
        self.assertGreater(searched, 200)

    def test_rules_from_a_point_to_itself(self):
        for least, weight, told in [(0, 9, 0), (-5, 9, 0), (4, 0, 0), (4, 9, 36), (GREAT, 99, 99 * GREAT), (0, None, 0),
                                    (-3, None, 0), (1, None, None)]:
            for many, point in [(0, 0), (2, 0), (2, 2)]:
                self.assertEqual(self.check(many, [rule(point, point, least, weight)]), told)
                if many:
                    more = [rule(0, 2, 7, 5), rule(point, point, least, weight), rule(2, 0, -4)]
                    self.assertEqual(self.check(many, more), None if told is None else told + 15)

    def test_points_that_no_rule_names(self):
        self.assertEqual(self.check(9, wish(4, 100, 3) + wish(6, 80, 2) + [rule(4, 6, 10)]), 60)

    def test_all_rules_alike(self):
        self.assertEqual(self.check(1, [rule(0, 1, 5, 3)] * 10 + [rule(1, 0, -4, 3)] * 10), 30)
        self.assertEqual(self.check(1, [rule(0, 1, 5, 3)] * 10 + [rule(1, 0, -4)] * 10), 30)

    def test_rings_where_nothing_keeps_what_must_be_kept(self):
        self.assertEqual(least_timing(0, [rule(0, 0, 1)]), ("ring", [0]))
        self.assertEqual(least_timing(1, [rule(0, 1, 9, 9), rule(1, 1, 1)]), ("ring", [1]))
        for least in (0, 1, -7, GREAT):
            rules = wish(1, 5, 5) + [rule(1, 2, least), rule(2, 1, 1 - least)] + wish(2, 5, 99)
            told = least_timing(2, rules)
            self.assertEqual((told[0], sorted(told[1])), ("ring", [2, 3]))
            self.assertIsNone(self.check(2, rules))

    def test_rules_by_chance(self):
        prices = []
        for seed in range(300):
            many = seed % 12
            maker = (some_rules, some_rules_that_can_be_kept)[seed % 2]
            prices.append(self.check(many, maker(seed, many, seed % 41, (3, 50, 10 ** 9, GREAT)[seed % 4], (0, 10, 50)[seed % 3])))
        self.assertIn(None, prices)
        self.assertGreater(len(set(prices)), 100)

    def test_weights_that_are_0(self):
        for seed in range(40):
            rules = [one if one[3] is None else one[:3] + (0,) + one[4:] for one in
                     some_rules_that_can_be_kept(seed, 5, 30, 9, 30)]
            self.assertEqual(self.check(5, rules), 0)

    def test_great_moments_in_short_time(self):
        begun = time.process_time()
        for great in (10 ** 9, GREAT, 10 ** 30):
            self.assertEqual(self.check(2, wish(1, great, 2) + wish(2, 0, 1) + [rule(1, 2, 5)]), great + 5)
            self.assertEqual(self.check(2, wish(1, great, 1) + wish(2, 0, 2) + [rule(1, 2, 5)]), great + 5)
            self.assertEqual(self.check(3, wish(1, great, 99) + wish(2, 0, 98) + wish(3, great // 2, 97)
                                        + [rule(1, 2, great), rule(2, 3, great)]),
                             min(99 * abs(first - great) + 98 * abs(first + great) + 97 * abs(first + 2 * great - great // 2)
                                 for first in (great, -great, great // 2 - 2 * great)))
            for seed in range(20):
                self.check(8, some_rules_that_can_be_kept(seed, 8, 60, great, 40))
        self.assertLess(time.process_time() - begun, 20)

    def test_two_hundred_points_and_two_thousand_rules(self):
        begun = time.process_time()
        for seed, great, hard in [(1, GREAT, 0), (2, 10 ** 9, 50), (3, GREAT, 90), (4, 3, 30)]:
            rules = some_rules_that_can_be_kept(seed, 200, 2000, great, hard)
            told = least_timing(200, rules)
            self.assertEqual(told[0], "timed")
            self.check_timed(200, rules, told[1], told[2])
        self.assertLess(time.process_time() - begun, 60)

    def test_rules_of_cues(self):
        settings = {"sign": 0, "least": 1000, "most": 7000, "apart": 80, "shy": 200, "begin": 2, "end": 1}
        one, other = (1000, 2000, "anna", "Hello."), (2000, 3000, "anna", "Hello.")
        self.assertEqual(self.check(2, rules_of(settings, [one], [])), 0)
        self.assertEqual(least_timing(2, rules_of(settings, [one], []))[1], [0, 1000, 2000])
        self.assertEqual(self.check(4, rules_of(settings, [one, other], [])), 240)
        self.assertEqual(self.check(4, rules_of(dict(settings, begin=0), [one, other], [])), 80)
        self.assertEqual(self.check(4, rules_of(dict(settings, least=1001, most=1001), [one, other], [])), 2 * 1 + 2 * 80 + 81)
        self.assertIsNone(self.check(2, rules_of(dict(settings, most=999), [one], [])))


def flows():
    """Points, rules and a flow of them, whose numbers some are and some are not at their bounds."""
    yield 0, [], []
    yield 3, [], []
    yield 0, [rule(0, 0, 5, 3), rule(0, 0, -5, 3), rule(0, 0, 5)], [3, 2, GREAT]
    yield 1, [rule(0, 1, 5, 3), rule(1, 0, 4, 5), rule(0, 1, 4, 0), rule(0, 1, 7)], [2, 5, 0, 3]
    yield 2, [rule(0, 1, 1, 4), rule(1, 2, -2, 9), rule(2, 0, 3), rule(1, 0, 3, 99), rule(2, 2, 7, 1)], [4, 3, 3, 1, 1]
    yield 2, [rule(0, 1, GREAT), rule(1, 2, GREAT), rule(2, 0, -GREAT)], [7, 7, 7]
    many, rules = 6, some_rules_that_can_be_kept(8, 6, 40, 30, 40)
    yield many, rules, least_timing(many, rules)[2]


def spoiled_numbers(numbers):
    """Other things for a list of numbers, most of them of no use in its place."""
    yield tuple(numbers)
    yield None
    yield 0
    yield numbers + [0]
    yield numbers + [1]
    yield [0] + numbers
    yield [None] * len(numbers)
    yield [numbers]
    yield dict(enumerate(numbers))
    yield {number: place for place, number in enumerate(numbers)}
    yield "0" * len(numbers)
    for place, number in enumerate(numbers):
        ahead, behind = numbers[:place], numbers[place + 1:]
        yield ahead + behind
        for other in [number + 1, number - 1, -1 - number, -1, 0, 1, 100, -number, GREAT, 10 ** 5000, True, False, None,
                      str(number), "", (number,), [number], Hostile(), b"1", object(), int, {}]:
            yield ahead + [other] + behind


class IsFlow(unittest.TestCase):
    def test_flows(self):
        for many, rules, flow in flows():
            self.assertTrue(is_a_flow(many, rules, flow))
            self.assertIs(is_flow(many, rules, flow), True)
            self.assertIs(is_flow(many, rules, [0] * len(rules)), True)

    def test_what_is_made_of_flows(self):
        answers = []
        for many, rules, flow in flows():
            for thing in spoiled_numbers(flow):
                told = is_flow(many, rules, thing)
                self.assertIs(told, is_a_flow(many, rules, thing), (rules, thing))
                answers.append(told)
        self.assertGreater(answers.count(True), 10)
        self.assertGreater(answers.count(False), 500)

    def test_more_or_less_of_a_ring(self):
        rules = [rule(0, 1, 1, 4), rule(1, 2, 1), rule(2, 0, 1, 99)]
        for number in range(-2, 7):
            self.assertIs(is_flow(2, rules, [number] * 3), 0 <= number <= 4)
        for flow in itertools.product(range(-1, 3), repeat=3):
            self.assertIs(is_flow(2, rules, list(flow)), len(set(flow)) == 1 and flow[0] >= 0)

    def test_bounds(self):
        for weight in (0, 1, 50, 99):
            self.assertIs(is_flow(0, [rule(0, 0, 0, weight)], [weight]), True)
            self.assertIs(is_flow(0, [rule(0, 0, 0, weight)], [weight + 1]), False)
            self.assertIs(is_flow(0, [rule(0, 0, 0, weight)], [-1]), False)
        self.assertIs(is_flow(0, [rule(0, 0, 0)], [GREAT]), True)
        self.assertIs(is_flow(0, [rule(0, 0, 0)], [-1]), False)

    def test_the_last_and_the_first_point(self):
        for low, high in itertools.permutations(range(4), 2):
            self.assertIs(is_flow(3, [rule(low, high, 0)], [1]), False)
            self.assertIs(is_flow(3, [rule(low, high, 0), rule(high, low, 0)], [1, 1]), True)

    def test_whatever_is_handed_in(self):
        for many, rules in [(0, []), (0, [rule(0, 0, 1)]), (1, [rule(0, 1, 1, 5), rule(1, 0, 1)])]:
            for thing in no_texts() + ["", "0", "00", [Hostile(), 0], [0, Hostile()], [False], [True, True], [[], []]]:
                self.assertIs(is_flow(many, rules, thing), is_a_flow(many, rules, thing) if type(thing) is list else False)

    def test_worth(self):
        self.assertEqual(worth([], []), 0)
        self.assertEqual(worth([rule(0, 0, 5, 3)], [2]), 10)
        for many, rules, flow in flows():
            self.assertEqual(worth(rules, flow), told_worth(rules, flow))
            self.assertIs(type(worth(rules, flow)), int)
        self.assertEqual(worth([rule(0, 1, GREAT), rule(1, 0, -7), rule(0, 1, 3, 0)], [GREAT, GREAT, 0]), GREAT * (GREAT - 7))


def by_the_words(many, rules, times, flow):
    """[23], of the checker."""
    if not isinstance(times, list) or len(times) != many + 1 or not all(is_number(moment) for moment in times):
        return False
    if times[0] != 0 or not keeps_all(times, rules) or not is_a_flow(many, rules, flow):
        return False
    return told_worth(rules, flow) == cost(times, rules)


class LetsBy(unittest.TestCase):
    def timed(self):
        """Points, rules, and what is told of them."""
        yield 0, [], [0], []
        yield 1, [rule(0, 1, 5), rule(1, 0, -7)], [0, 6], [0, 0]
        yield 2, wish(1, 10, 3) + wish(2, 4, 2) + [rule(1, 2, 1)], [0, 10, 11], [2, 0, 0, 2, 2]
        yield 2, [rule(1, 0, 4), rule(0, 1, -9, 5), rule(2, 2, 7, 3)], [0, -5, 0], [0, 0, 3]
        yield 1, [rule(0, 0, 0), rule(0, 1, 3, 1), rule(1, 0, -3, 1)], [0, 3], [5, 1, 1]
        for seed in range(12):
            rules = some_rules_that_can_be_kept(seed, 4, 14, (5, GREAT)[seed % 2], 40)
            told = least_timing(4, rules)
            yield 4, rules, told[1], told[2]

    def test_what_is_told(self):
        for many, rules, times, flow in self.timed():
            self.assertTrue(by_the_words(many, rules, times, flow))
            self.assertIs(lets_by(many, rules, times, flow), True)

    def test_either_one_spoiled(self):
        answers = []
        for many, rules, times, flow in self.timed():
            for thing in spoiled_numbers(times):
                told = lets_by(many, rules, thing, flow)
                self.assertIs(told, by_the_words(many, rules, thing, flow), (rules, thing, flow))
                answers.append(told)
            for thing in spoiled_numbers(flow):
                told = lets_by(many, rules, times, thing)
                self.assertIs(told, by_the_words(many, rules, times, thing), (rules, times, thing))
                answers.append(told)
        self.assertGreater(answers.count(True), 20)
        self.assertGreater(answers.count(False), 2000)

    def test_another_price(self):
        rules = wish(1, 10, 3) + wish(2, 4, 2) + [rule(1, 2, 1)]
        for first in range(20):
            for second in range(20):
                told = lets_by(2, rules, [0, first, second], [2, 0, 0, 2, 2])
                self.assertIs(told, (first, second) == (10, 11))
        self.assertIs(lets_by(2, rules, [0, 10, 11], [1, 0, 0, 1, 1]), False)
        self.assertIs(lets_by(2, rules, [0, 10, 11], [3, 1, 0, 2, 2]), True)

    def test_a_broken_rule(self):
        rules = [rule(0, 1, 5), rule(1, 0, -7), rule(0, 1, 6, 0)]
        for moment in range(-10, 20):
            self.assertIs(lets_by(1, rules, [0, moment], [0, 0, 0]), 5 <= moment <= 7)

    def test_a_timing_that_does_not_begin_with_0(self):
        rules = [rule(1, 2, 3), rule(0, 0, -1, 4)]
        self.assertIs(lets_by(2, rules, [0, 5, 8], [0, 0]), True)
        for times in ([1, 6, 9], [-1, 4, 7], [False, 5, 8], [None, 5, 8], ["0", 5, 8], [1, 5, 8]):
            self.assertIs(lets_by(2, rules, times, [0, 0]), False)

    def test_whatever_is_handed_in(self):
        things = no_texts() + ["", "0", [Hostile(), 0], [0, Hostile()], [False], [0, None]]
        for many, rules, times, flow in [(0, [], [0], []), (1, [rule(0, 1, 0)], [0, 0], [0])]:
            for thing in things:
                self.assertIs(lets_by(many, rules, thing, flow), by_the_words(many, rules, thing, flow))
                self.assertIs(lets_by(many, rules, times, thing), by_the_words(many, rules, times, thing))
                self.assertIs(lets_by(many, rules, thing, thing), False)

    def test_great_ones(self):
        rules = wish(1, GREAT, 99) + wish(1, 0, 98)
        told = least_timing(1, rules)
        self.assertIs(lets_by(1, rules, [0, GREAT], told[2]), True)
        self.assertIs(lets_by(1, rules, [0, GREAT - 1], told[2]), False)
        self.assertIs(lets_by(1, rules, [0, GREAT + 1], told[2]), False)
        self.assertEqual(worth(rules, told[2]), 98 * GREAT)


class Values(unittest.TestCase):
    def test_nothing_handed_in_is_changed(self):
        for many, rules, flow in flows():
            times = [0] * (many + 1)
            before = copy.deepcopy((rules, flow, times))
            least_timing(many, rules)
            is_flow(many, rules, flow)
            worth(rules, flow)
            lets_by(many, rules, times, flow)
            self.assertEqual((rules, flow, times), before)

    def test_lists_are_the_askers_own(self):
        for many, rules in [(0, []), (2, wish(1, 10, 3) + wish(2, 4, 2) + [rule(1, 2, 1)]), (0, [rule(0, 0, 1)])]:
            told = least_timing(many, rules)
            before = copy.deepcopy(told)
            kept = copy.deepcopy(rules)
            for part in told[1:]:
                part.append("more")
                part.reverse()
            self.assertEqual(rules, kept)
            self.assertEqual(least_timing(many, rules), before)

    def test_what_is_handed_in_may_be_changed_later(self):
        rules = wish(1, 10, 3) + wish(2, 4, 2) + [rule(1, 2, 1)]
        told = least_timing(2, rules)
        before = copy.deepcopy(told)
        rules.clear()
        self.assertEqual(told, before)


if __name__ == "__main__":
    unittest.main()
