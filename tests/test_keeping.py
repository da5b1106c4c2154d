"""A timing that keeps what must be kept, or a ring: [20] and [21], and [2] to [4] as far as they speak of them."""

import copy
import itertools
import unittest

from cuetimer.keeping import is_ring, keeping
from cuetimer.rules import rules_of
from tests.odd_things import Hostile, no_texts
from tests.rules_by_the_words import can_be_kept, is_a_ring, is_number, keeps_all, some_rules, some_rules_that_can_be_kept

GREAT = 10 ** 18


def rule(low, high, least, weight=None):
    return (low, high, least, weight, ("rule", low, high))


class Kept(unittest.TestCase):
    def check(self, many, rules):
        """What is told is right by its own words, whichever it is; its first word is told."""
        told = keeping(many, rules)
        self.assertIs(type(told), tuple)
        self.assertEqual(len(told), 2)
        self.assertIs(type(told[1]), list)
        if told[0] == "kept":
            self.check_times(many, rules, told[1])
        else:
            self.assertEqual(told[0], "ring")
            self.check_ring(many, rules, told[1])
        return told[0]

    def check_times(self, many, rules, times):
        self.assertEqual([type(moment) for moment in times], [int] * (many + 1))
        self.assertEqual(times[0], 0)
        self.assertTrue(keeps_all(times, rules), (many, rules, times))

    def check_ring(self, many, rules, numbers):
        self.assertTrue(is_a_ring(rules, numbers), (many, rules, numbers))
        self.assertIs(is_ring(rules, numbers), True)
        ring = [rules[number] for number in numbers]
        for place in range(len(ring)):
            self.assertTrue(can_be_kept(many, ring[:place] + ring[place + 1:]))
            self.assertEqual(keeping(many, ring[:place] + ring[place + 1:])[0], "kept")
        self.assertEqual(keeping(many, ring)[0], "ring")

    def test_no_rules(self):
        for many in (0, 1, 5, 200):
            self.assertEqual(self.check(many, []), "kept")
        self.assertEqual(keeping(0, []), ("kept", [0]))

    def test_one_rule(self):
        for many in (1, 2, 7):
            for low, high in itertools.permutations(range(many + 1), 2):
                for least in (-GREAT, -1, 0, 1, 3, GREAT):
                    self.assertEqual(self.check(many, [rule(low, high, least)]), "kept")

    def test_a_rule_from_a_point_to_itself(self):
        for many, point in [(0, 0), (1, 0), (1, 1), (5, 3), (200, 200)]:
            for least in (-GREAT, -1, 0):
                self.assertEqual(self.check(many, [rule(point, point, least)]), "kept")
            for least in (1, 2, GREAT):
                self.assertEqual(keeping(many, [rule(point, point, least)]), ("ring", [0]))
                self.assertEqual(keeping(many, [rule(point, point, 0), rule(point, point, least)]), ("ring", [1]))
                self.assertEqual(self.check(many, [rule(point, point, least)]), "ring")

    def test_kept_just_and_by_one(self):
        for least in (-7, 0, 1, 7, GREAT, -GREAT):
            for more, word in [(-5, "kept"), (-1, "kept"), (0, "kept"), (1, "ring"), (5, "ring")]:
                rules = [rule(1, 2, least), rule(2, 1, -least + more)]
                self.assertEqual(self.check(2, rules), word)
                self.assertEqual(self.check(2, rules[::-1]), word)
                rules = [rule(0, 1, least), rule(1, 2, 3), rule(2, 3, -4), rule(3, 0, 1 - least + more)]
                for order in itertools.permutations(rules):
                    self.assertEqual(self.check(3, list(order)), word)

    def test_rules_with_a_weight_are_not_looked_at(self):
        for weight in (0, 1, 99):
            self.assertEqual(self.check(1, [rule(0, 1, 5, weight), rule(1, 0, 5, weight), rule(1, 1, 1, weight)]), "kept")
            self.assertEqual(self.check(1, [rule(0, 1, 5, weight), rule(1, 0, -4)]), "kept")
            self.assertEqual(self.check(1, [rule(0, 1, 5, weight), rule(1, 0, 5), rule(0, 1, -4)]), "ring")
            self.assertEqual(keeping(1, [rule(0, 0, 5, weight), rule(0, 0, 5)]), ("ring", [1]))

    def test_many_rules_between_the_same_points(self):
        rules = [rule(0, 1, least) for least in range(-50, 51)] + [rule(1, 0, -least) for least in range(50, 150)]
        self.assertEqual(self.check(1, rules), "kept")
        self.assertEqual(keeping(1, rules), ("kept", [0, 50]))
        self.assertEqual(self.check(1, rules + [rule(1, 0, -49)]), "ring")
        self.assertEqual(self.check(1, [rule(1, 0, -49)] + rules), "ring")

    def test_points_that_no_rule_names(self):
        self.assertEqual(self.check(9, [rule(3, 5, 4), rule(5, 3, -4)]), "kept")
        self.assertEqual(self.check(9, [rule(3, 5, 4), rule(5, 3, -3)]), "ring")

    def test_the_beginning_may_be_a_high_point(self):
        self.assertEqual(self.check(2, [rule(1, 0, 5), rule(2, 0, 7)]), "kept")
        self.assertEqual(self.check(2, [rule(1, 0, GREAT), rule(0, 2, GREAT), rule(2, 1, -2 * GREAT)]), "kept")
        self.assertEqual(self.check(2, [rule(1, 0, GREAT), rule(0, 2, GREAT), rule(2, 1, 1 - 2 * GREAT)]), "ring")

    def test_all_small_rules_of_two_points(self):
        ways = [rule(low, high, least) for low in (0, 1) for high in (0, 1) for least in (-1, 0, 1)]
        words = []
        for rules in itertools.product(ways, repeat=3):
            word = self.check(1, list(rules))
            self.assertEqual(word == "kept", can_be_kept(1, rules))
            words.append(word)
        self.assertEqual(len(set(words)), 2)

    def test_rules_by_chance(self):
        for maker in (some_rules, some_rules_that_can_be_kept):
            words = []
            for seed in range(300):
                many = seed % 8
                rules = maker(seed, many, seed % 17, (2, 9, GREAT)[seed % 3], 70)
                word = self.check(many, rules)
                self.assertEqual(word == "kept", can_be_kept(many, rules), (many, rules))
                words.append(word)
            self.assertIn("kept", words)
            self.assertEqual("ring" in words, maker is some_rules)

    def test_a_long_ring(self):
        for many in (1, 2, 3, 50, 200):
            for least in (-GREAT, 0, GREAT):
                rules = [rule(point, point + 1, least) for point in range(many)]
                self.assertEqual(self.check(many, rules + [rule(many, 0, -many * least)]), "kept")
                for order in (rules, rules[::-1]):
                    told = keeping(many, order + [rule(many, 0, 1 - many * least)])
                    self.assertEqual((told[0], sorted(told[1])), ("ring", list(range(many + 1))))
                    self.assertTrue(is_a_ring(order + [rule(many, 0, 1 - many * least)], told[1]))

    def test_a_ring_far_from_where_rules_lead(self):
        tail = [rule(point, point + 1, 1) for point in range(100)]
        ring = [rule(100, 101, 1), rule(101, 102, -1), rule(102, 100, 1)]
        for rules in (tail + ring, ring + tail, (tail + ring)[::-1]):
            self.assertEqual(self.check(150, rules), "ring")

    def test_many_points_and_rules(self):
        self.assertEqual(self.check(200, some_rules_that_can_be_kept(5, 200, 2000, GREAT, 95)), "kept")
        told = keeping(200, some_rules(5, 200, 2000, GREAT, 95))
        self.assertTrue(is_a_ring(some_rules(5, 200, 2000, GREAT, 95), told[1]))

    def test_rules_of_cues(self):
        settings = {"sign": 60, "least": 1000, "most": 7000, "apart": 80, "shy": 200, "begin": 2, "end": 1}
        cues = [(1000, 3000, "anna", "Hello."), (3000, 5000, "bert", "Hello."), (3000, 5000, "anna", "Hello.")]
        self.assertEqual(self.check(6, rules_of(settings, cues, [])), "kept")
        rules = rules_of(dict(settings, most=999), cues, [])
        self.assertEqual(self.check(6, rules), "ring")
        self.assertEqual(self.check(6, rules_of(settings, cues, [900, 3100])), "kept")
        self.assertEqual(self.check(2, rules_of(settings, [(1000, 1400, "anna", "Hello.")], [900, 1899])), "ring")
        self.assertEqual(self.check(2, rules_of(settings, [(1000, 1400, "anna", "Hello.")], [900, 1900])), "kept")


def rings():
    """Rules, and a ring of them."""
    yield [rule(0, 0, 1)], [0]
    yield [rule(3, 3, GREAT), rule(0, 0, 0)], [0]
    yield [rule(0, 1, 5, 3), rule(1, 0, -4), rule(0, 1, 5), rule(0, 1, 4), rule(0, 1, 4, None)], [1, 2]
    yield [rule(2, 0, -3), rule(1, 2, 2), rule(0, 1, 2), rule(0, 2, 1), rule(2, 1, 9, 9)], [2, 1, 0]
    yield [rule(point, (point + 1) % 40, point - 19) for point in range(40)] + [rule(0, 0, 1)], list(range(40))


def spoiled(rules, ring):
    """Other things for a ring: some are rings, too, most are none."""
    yield list(reversed(ring))
    yield ring + ring
    yield ring + ring + ring
    yield []
    yield tuple(ring)
    yield ring + [ring[0]]
    yield {number: number for number in ring}
    yield [ring]
    for place, number in enumerate(ring):
        ahead, behind = ring[:place], ring[place + 1:]
        yield ahead + behind
        yield behind + [number] + ahead
        yield behind + ahead + [number]
        yield ahead + [number, number] + behind
        for other in [len(rules), len(rules) + 5, -1, number - len(rules), -len(rules) - 1, True, False, None, str(number),
                      (number,), [number], GREAT, 10 ** 5000, -GREAT, {}, b"0", Hostile(), object(), int, ""]:
            yield ahead + [other] + behind
        for other in range(len(rules)):
            yield ahead + [other] + behind
            yield ahead + [number, other] + behind


class IsRing(unittest.TestCase):
    def test_rings(self):
        for rules, ring in rings():
            for place in range(len(ring)):
                self.assertIs(is_ring(rules, ring[place:] + ring[:place]), True)

    def test_what_is_made_of_rings(self):
        for rules, ring in rings():
            answers = []
            for thing in spoiled(rules, ring):
                told = is_ring(rules, thing)
                self.assertIs(told, is_a_ring(rules, thing), (rules, thing))
                answers.append(told)
            self.assertGreater(answers.count(False), 15)

    def test_known_ones(self):
        rules = [rule(0, 1, 5), rule(1, 0, -4), rule(1, 0, -5), rule(0, 1, 9, 99), rule(1, 1, 1), rule(1, 1, 0)]
        for numbers, told in [([0, 1], True), ([1, 0], True), ([0, 2], False), ([2, 0], False), ([3, 1], False), ([0], False),
                              ([1], False), ([4], True), ([5], False), ([4, 4], False), ([0, 4, 1], False), ([0, 1, 0, 1], False),
                              ([0, 1, 4], False), ([], False), ([0, -5], False), ([-6, 1], False), ([0, 6], False),
                              ([False, True], False), ([0, True], False), ([False, 1], False), ((0, 1), False)]:
            self.assertIs(is_ring(rules, numbers), told, numbers)

    def test_two_rings_that_meet(self):
        rules = [rule(0, 1, 1), rule(1, 0, 1), rule(0, 2, 1), rule(2, 0, 1)]
        self.assertIs(is_ring(rules, [0, 1]), True)
        self.assertIs(is_ring(rules, [2, 3]), True)
        self.assertIs(is_ring(rules, [0, 1, 2, 3]), False)
        self.assertIs(is_ring(rules, [0, 3]), False)

    def test_whatever_is_handed_in(self):
        for rules in ([], [rule(0, 0, 1)], [rule(0, 0, 1), rule(0, 0, 1)], [rule(0, 1, 1), rule(1, 0, 1)]):
            for thing in no_texts() + ["", "0", "01", [None], [Hostile(), 0], [0, Hostile()], [[0]], [[], []]]:
                self.assertIs(is_ring(rules, thing), is_a_ring(rules, thing) if type(thing) is list else False)

    def test_no_rules(self):
        for numbers in ([], [0], [-1], [1]):
            self.assertIs(is_ring([], numbers), False)

    def test_every_list_of_a_few_rules(self):
        rules = [rule(0, 1, 2), rule(1, 0, -1), rule(1, 2, 0), rule(2, 0, -2), rule(2, 1, 1), rule(0, 2, 3, 0)]
        found = 0
        for length in range(5):
            for numbers in itertools.product(range(-1, 7), repeat=length):
                told = is_ring(rules, list(numbers))
                self.assertIs(told, is_a_ring(rules, list(numbers)))
                found += told
        self.assertGreater(found, 3)


class Values(unittest.TestCase):
    def test_nothing_handed_in_is_changed(self):
        for rules, ring in rings():
            before = copy.deepcopy((rules, ring))
            many = 40
            keeping(many, rules)
            keeping(many, rules[:1])
            is_ring(rules, ring)
            self.assertEqual((rules, ring), before)

    def test_lists_are_the_askers_own(self):
        for rules in ([], [rule(0, 1, 5)], [rule(0, 0, 1)], [rule(0, 1, 5), rule(1, 0, -4)]):
            told = keeping(1, rules)
            before = copy.deepcopy(told)
            told[1].append("more")
            told[1][0] = "other"
            self.assertEqual(keeping(1, rules), before)

    def test_what_is_handed_in_may_be_changed_later(self):
        rules = [rule(0, 1, 5), rule(1, 0, -4)]
        told = keeping(1, rules)
        before = copy.deepcopy(told)
        rules.clear()
        self.assertEqual(told, before)

    def test_the_kinds_of_what_is_told(self):
        for many in (0, 3):
            told = keeping(many, [rule(0, 0, 1)])
            self.assertEqual([is_number(number) for number in told[1]], [True])


if __name__ == "__main__":
    unittest.main()
