"""Cues timed: [27], and [2] to [4] as far as they speak of them."""

import copy
import itertools
import random
import time
import unittest

from cuetimer.cues import are_cues
from cuetimer.errors import CueError, NoTiming
from cuetimer.keeping import is_ring, keeping
from cuetimer.least import least_timing, lets_by
from cuetimer.rules import broken, price, rules_beside, rules_of
from cuetimer.timed import timed_both, timed_cues
from tests.rules_by_the_words import can_be_kept, cost, keeps_all

GREAT = 10 ** 18
SETTINGS = {"sign": 60, "least": 1000, "most": 7000, "apart": 80, "shy": 200, "begin": 2, "end": 1}
SMALL = {"sign": 0, "least": 2, "most": 4, "apart": 1, "shy": 2, "begin": 2, "end": 1}


def cue(begin, end, hand="anna", words="Hello."):
    return (begin, end, hand, words)


def times_of(*lists):
    return [0] + [moment for cues in lists for one in cues for moment in one[:2]]


def some_cues(seed, many, reach, longest, hands):
    chance = random.Random(seed)
    begins = sorted(chance.randint(0, reach) for _ in range(many))
    return [cue(begin, begin + chance.randint(1, longest), chance.choice(["anna", "bert", "cleo"][:hands]),
                "w " * chance.randint(0, 9) + "w") for begin in begins]


def rules_of_both(settings, ones, others, pairs, within, cuts):
    """[27], of two tongues."""
    many = len(ones)
    return (rules_of(settings, ones, cuts) + rules_of(settings, others, cuts, many)
            + rules_beside([(c, many + d) for c, d in pairs], within))


class Checks(unittest.TestCase):
    def check_cues(self, told, cues):
        self.assertIs(type(told), list)
        self.assertEqual([type(one) for one in told], [tuple] * len(cues))
        self.assertEqual([one[2:] for one in told], [one[2:] for one in cues])
        self.assertTrue(are_cues(told))

    def check_price(self, rules, times):
        """They keep all that must be kept, and the paper of a least timing shows that they cost no more than it."""
        self.assertTrue(keeps_all(times, rules))
        self.assertEqual(broken(rules, times), [])
        paper = least_timing(len(times) - 1, rules)
        self.assertEqual(paper[0], "timed")
        self.assertEqual(cost(times, rules), price(rules, paper[1]))
        self.assertIs(lets_by(len(times) - 1, rules, times, paper[2]), True)

    def check_refused(self, rules, many, ask):
        with self.assertRaises(NoTiming) as caught:
            ask()
        self.assertIsInstance(caught.exception, CueError)
        ring = caught.exception.ring
        self.assertIs(type(ring), list)
        self.assertEqual({type(why) for why in ring}, {tuple})
        self.assertFalse(can_be_kept(many, rules))
        self.check_ring(rules, ring)
        return ring

    def check_ring(self, rules, whys):
        """Of the rules with these whys, some choice is a ring in that order, and can be kept without any one of them."""
        numbers = [[number for number, rule in enumerate(rules) if rule[4] == why and rule[3] is None] for why in whys]
        choices = [list(choice) for choice in itertools.product(*numbers)]
        rings = [choice for choice in choices if is_ring(rules, choice)]
        self.assertNotEqual(rings, [], whys)
        ring = [rules[number] for number in rings[0]]
        many = max(max(rule[:2]) for rule in rules)
        for place in range(len(ring)):
            self.assertEqual(keeping(many, ring[:place] + ring[place + 1:])[0], "kept")


class TimedCues(Checks):
    def check(self, settings, cues, cuts):
        rules = rules_of(settings, cues, cuts)
        if can_be_kept(2 * len(cues), rules):
            told = timed_cues(settings, cues, cuts)
            self.check_cues(told, cues)
            self.check_price(rules, times_of(told))
            return told
        self.check_refused(rules, 2 * len(cues), lambda: timed_cues(settings, cues, cuts))
        return None

    def test_no_cues(self):
        self.assertEqual(timed_cues(SETTINGS, [], []), [])
        self.assertEqual(timed_cues(SETTINGS, [], [5, 7]), [])

    def test_what_keeps_all_rules_stays(self):
        for cues, cuts in [([cue(1000, 3000)], []), ([cue(0, 1000), cue(1080, 2080)], [1080]),
                           ([cue(1000, 3000), cue(1000, 3000, "bert")], [1200, 2800, 3000]), ([cue(GREAT - 1000, GREAT)], [])]:
            self.assertEqual(self.check(SETTINGS, cues, cuts), cues)

    def test_long_enough(self):
        self.assertEqual(self.check(SETTINGS, [cue(1000, 1500)], []), [cue(1000, 2000)])
        self.assertEqual(self.check(dict(SETTINGS, end=3), [cue(1000, 1500)], []), [cue(500, 1500)])
        self.assertEqual(self.check(dict(SETTINGS, end=3), [cue(300, 500)], []), [cue(0, 1000)])
        words = "It was the best of times, it was the worst."
        self.assertEqual(self.check(SETTINGS, [cue(1000, 1500, "anna", words)], []),
                         [cue(1000, 1000 + 60 * len(words), "anna", words)])

    def test_not_too_long(self):
        self.assertEqual(self.check(SETTINGS, [cue(1000, 9000)], []), [cue(1000, 8000)])
        self.assertEqual(self.check(dict(SETTINGS, begin=1, end=2), [cue(1000, 9000)], []), [cue(2000, 9000)])

    def test_apart(self):
        told = self.check(SETTINGS, [cue(0, 2000), cue(2000, 4000)], [])
        self.assertEqual(told, [cue(0, 1920), cue(2000, 4000)])
        bert = [cue(0, 2000), cue(2000, 4000, "bert")]
        self.assertEqual(self.check(SETTINGS, bert, []), bert)
        far = [cue(0, 2000), cue(2000, 4000, "bert"), cue(2010, 4000)]
        self.assertEqual(self.check(SETTINGS, far, []), [cue(0, 1930), far[1], far[2]])

    def test_cuts(self):
        self.assertEqual(self.check(SETTINGS, [cue(1000, 3000)], [2900]), [cue(1000, 2900)])
        self.assertEqual(self.check(SETTINGS, [cue(1000, 3000)], [1100]), [cue(1100, 3000)])
        self.assertEqual(self.check(SETTINGS, [cue(1000, 3000)], [2800]), [cue(1000, 3000)])
        self.assertEqual(self.check(dict(SETTINGS, shy=201), [cue(1000, 3000)], [2800]), [cue(1000, 2800)])

    def test_most_too_short(self):
        self.assertIsNone(self.check(dict(SETTINGS, most=999), [cue(1000, 3000)], []))
        self.assertEqual(self.check(dict(SETTINGS, most=1000), [cue(1000, 3000)], []), [cue(1000, 2000)])
        rules = rules_of(dict(SETTINGS, most=999), [cue(0, 500, "bert"), cue(1000, 3000)], [])
        ring = self.check_refused(rules, 4, lambda: timed_cues(dict(SETTINGS, most=999), [cue(0, 500, "bert"), cue(1000, 3000)], []))
        self.assertIn(sorted(ring), [[("long", c), ("most", c)] for c in (0, 1)])

    def test_no_room_between_cuts(self):
        self.assertIsNone(self.check(SETTINGS, [cue(1000, 1400)], [900, 1899]))
        self.assertEqual(self.check(SETTINGS, [cue(1000, 1400)], [900, 1900]), [cue(900, 1900)])
        with self.assertRaises(NoTiming) as caught:
            timed_cues(SETTINGS, [cue(1000, 1400)], [900, 1899])
        self.assertEqual(sorted(caught.exception.ring), [("ahead", 0, 1), ("behind", 0, 0), ("long", 0)])

    def test_against_a_search(self):
        timed = 0
        for seed in range(150):
            chance = random.Random(seed)
            cues = some_cues(seed, 2, 6, 6, 2)
            cuts = [chance.randint(0, 10) for _ in range(seed % 3)]
            settings = dict(SMALL, most=chance.randint(1, 5), shy=chance.randint(1, 3), begin=chance.randint(0, 3),
                            end=chance.randint(0, 3), sign=seed % 2 * (seed % 7 == 0))
            rules = rules_of(settings, cues, cuts)
            told = self.check(settings, cues, cuts)
            prices = [cost([0, *times], rules) for times in itertools.product(range(16), repeat=4)
                      if times[0] < times[1] and times[2] < times[3] and keeps_all([0, *times], rules)]
            self.assertEqual(None if told is None else cost(times_of(told), rules), min(prices, default=None))
            timed += told is not None
        self.assertGreater(timed, 30)
        self.assertLess(timed, 150)

    def test_cues_by_chance(self):
        answers = []
        for seed in range(60):
            cues = some_cues(seed, seed % 9, 20000, 4000, 1 + seed % 3)
            cuts = [random.Random(seed).randint(0, 20000) for _ in range(seed % 4)]
            answers.append(self.check(SETTINGS, cues, cuts) is None)
        self.assertEqual(set(answers), {True, False})

    def test_a_hundred_cues(self):
        begun = time.process_time()
        cues = some_cues(1, 100, 100000, 3000, 3)
        told = timed_cues(SETTINGS, cues, [])
        self.check_cues(told, cues)
        self.check_price(rules_of(SETTINGS, cues, []), times_of(told))
        chance = random.Random(2)
        cues = [cue(1000 * place, 1000 * place + chance.randint(300, 990)) for place in range(100)]
        settings = dict(SETTINGS, sign=0, least=1)
        cuts = list(range(5500, 105500, 10000))
        told = timed_cues(settings, cues, cuts)
        self.check_cues(told, cues)
        self.check_price(rules_of(settings, cues, cuts), times_of(told))
        self.assertLess(time.process_time() - begun, 60)

    def test_great_moments(self):
        cues = [cue(GREAT - 3000 + place, GREAT - 2000 + 2 * place) for place in range(5)]
        self.assertIsNotNone(self.check(SETTINGS, cues, [GREAT]))
        self.assertIsNotNone(self.check(dict(SETTINGS, apart=10 ** 9, least=10 ** 9, most=10 ** 9), cues, []))


class TimedBoth(Checks):
    def check(self, settings, ones, others, pairs, within, cuts):
        rules = rules_of_both(settings, ones, others, pairs, within, cuts)
        many = 2 * (len(ones) + len(others))
        if can_be_kept(many, rules):
            told = timed_both(settings, ones, others, pairs, within, cuts)
            self.assertIs(type(told), tuple)
            self.assertEqual(len(told), 2)
            self.check_cues(told[0], ones)
            self.check_cues(told[1], others)
            self.check_price(rules, times_of(told[0], told[1]))
            for c, d in pairs:
                self.assertLessEqual(abs(told[0][c][0] - told[1][d][0]), within)
                self.assertLessEqual(abs(told[0][c][1] - told[1][d][1]), within)
            return told
        self.check_refused(rules, many, lambda: timed_both(settings, ones, others, pairs, within, cuts))
        return None

    def test_no_cues(self):
        self.assertEqual(timed_both(SETTINGS, [], [], [], 0, [5]), ([], []))
        self.assertEqual(self.check(SETTINGS, [cue(0, 1000)], [], [], 5, []), ([cue(0, 1000)], []))
        self.assertEqual(self.check(SETTINGS, [], [cue(0, 1000)], [], 5, []), ([], [cue(0, 1000)]))

    def test_no_pairs(self):
        ones, others = [cue(0, 500)], [cue(300, 5000, "bert"), cue(4000, 6000)]
        told = self.check(SETTINGS, ones, others, [], 0, [5500])
        self.assertEqual(told, (timed_cues(SETTINGS, ones, [5500]), timed_cues(SETTINGS, others, [5500])))

    def test_both_tongues_may_speak_at_once(self):
        ones, others = [cue(0, 2000), cue(2080, 4000)], [cue(500, 2500), cue(2580, 4500)]
        self.assertEqual(self.check(SETTINGS, ones, others, [], 0, []), (ones, others))

    def test_beside_one_another(self):
        ones, others = [cue(1000, 3000)], [cue(1500, 3700, "bert")]
        self.assertEqual(self.check(SETTINGS, ones, others, [(0, 0)], 700, []), (ones, others))
        for within in (699, 500, 499, 100, 1, 0):
            self.check(SETTINGS, ones, others, [(0, 0)], within, [])
        told = self.check(SETTINGS, ones, others, [(0, 0)], 0, [])
        self.assertEqual([one[:2] for one in told[0]], [one[:2] for one in told[1]])

    def test_pairs_are_places_among_each(self):
        ones = [cue(0, 1000), cue(2000, 3000), cue(4000, 5000)]
        others = [cue(1900, 3000, "bert"), cue(4100, 5300, "bert")]
        told = self.check(SETTINGS, ones, others, [(1, 0), (2, 1)], 50, [])
        self.assertEqual(told[0][0], ones[0])
        self.assertLessEqual(abs(told[0][2][1] - told[1][1][1]), 50)
        self.assertNotEqual(told, (ones, others))

    def test_each_with_all_cuts(self):
        told = self.check(SETTINGS, [cue(1000, 3000)], [cue(1000, 3050)], [], 0, [2900, 1100])
        self.assertEqual(told, ([cue(1100, 2900)], [cue(1100, 2900)]))

    def test_rings_have_the_whys_of_these_rules(self):
        ones, others = [cue(1000, 2000)], [cue(9000, 9900), cue(9900, 12000)]
        self.assertIsNone(self.check(SETTINGS, ones, others, [(0, 0), (0, 1)], 100, []))
        with self.assertRaises(NoTiming) as caught:
            timed_both(dict(SETTINGS, most=1500), [cue(0, 1000)], [cue(0, 1000, "anna", "w" * 30)], [], 0, [])
        self.assertEqual(sorted(caught.exception.ring), [("long", 1), ("most", 1)])
        with self.assertRaises(NoTiming) as caught:
            timed_both(SETTINGS, [cue(0, 1000)], [cue(5000, 6000)], [(0, 0)], 10, [3000])
        self.assertEqual(sorted(why[0] for why in caught.exception.ring)[0], "ahead")
        self.assertIn(sorted(caught.exception.ring), [
            [("ahead", 0, 0), ("behind", 1, 0), (word, 1, 0)] if word == "begins" else [] for word in ("begins", "ends")] + [
            [("ahead", 0, 0), ("begins", 1, 0), ("behind", 1, 0), ("long", 0)],
            [("ahead", 0, 0), ("behind", 1, 0), ("ends", 1, 0), ("long", 1)]])

    def test_by_chance(self):
        answers = []
        for seed in range(60):
            ones, others = some_cues(seed, seed % 6, 12000, 3000, 2), some_cues(seed + 1000, seed % 5, 12000, 3000, 3)
            pairs = [(place, place) for place in range(min(len(ones), len(others)))][:seed % 4]
            cuts = [random.Random(seed).randint(0, 12000) for _ in range(seed % 2)]
            answers.append(self.check(SETTINGS, ones, others, pairs, (0, 100, 5000, 10 ** 9)[seed % 4], cuts) is None)
        self.assertEqual(set(answers), {True, False})


class Values(unittest.TestCase):
    def test_nothing_handed_in_is_changed(self):
        things = [dict(SETTINGS), [cue(0, 500), cue(400, 700)], [cue(0, 600)], [(0, 0)], [650]]
        before = copy.deepcopy(things)
        timed_cues(things[0], things[1], [])
        timed_both(things[0], things[1], things[2], things[3], 5, [])
        for ask in (lambda: timed_cues(things[0], things[1], things[4] * 3),
                    lambda: timed_both(things[0], things[1], things[2], things[3], 5, things[4])):
            self.assertRaises(NoTiming, ask)
        self.assertEqual(things, before)

    def test_lists_are_the_askers_own(self):
        cues = [cue(0, 1000), cue(2000, 3000)]
        told = timed_cues(SETTINGS, cues, [])
        self.assertEqual(told, cues)
        told.clear()
        both = timed_both(SETTINGS, cues, cues, [(0, 0)], 5, [])
        self.assertEqual(both, (cues, cues))
        both[0].append("more")
        self.assertEqual(both[1], cues)
        self.assertEqual(cues, [cue(0, 1000), cue(2000, 3000)])
        self.assertEqual(timed_cues(SETTINGS, cues, []), cues)
        self.assertEqual(timed_both(SETTINGS, cues, cues, [(0, 0)], 5, []), (cues, cues))

    def test_rings_are_the_askers_own(self):
        rings = []
        for turn in range(2):
            try:
                timed_cues(dict(SETTINGS, most=9), [cue(0, 1000)], [])
            except NoTiming as refused:
                rings.append(list(refused.ring))
                refused.ring.clear()
        self.assertEqual(rings[0], rings[1])
        self.assertEqual(len(rings[0]), 2)


if __name__ == "__main__":
    unittest.main()
