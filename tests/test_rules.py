"""Rules: [16] to [19], and [2] and [3] as far as they speak of them."""

import copy
import itertools
import unittest

from cuetimer.rules import broken, price, rules_beside, rules_of
from tests.rules_by_the_words import cost, keeps, keeps_all, some_rules

GREAT = 10 ** 18

SETTINGS = {"sign": 60, "least": 1000, "most": 7000, "apart": 80, "shy": 200, "begin": 2, "end": 1}


def with_settings(**others):
    return dict(SETTINGS, **others)


def cue(begin, end, hand="anna", words="Hello."):
    return (begin, end, hand, words)


def by_the_words(settings, cues, cuts, first):
    """[17], row by row."""
    told = []

    def must(low, high, least, *why):
        told.append((low, high, least, None, why))

    for c in range(first, first + len(cues)):
        begin, end, hand, words = cues[c - first]
        b, e = 2 * c + 1, 2 * c + 2
        must(0, b, 0, "start", c)
        must(b, e, sorted([settings["least"], settings["sign"] * len(words)])[1], "long", c)
        must(e, b, -settings["most"], "most", c)
        told.append((0, b, begin, settings["begin"], ("wish", c)))
        told.append((b, 0, -begin, settings["begin"], ("wish", c)))
        told.append((0, e, end, settings["end"], ("wish", c)))
        told.append((e, 0, -end, settings["end"], ("wish", c)))
        behind = [d for d in range(first, first + len(cues)) if d > c]
        if behind:
            must(b, 2 * (c + 1) + 1, 0, "order", c, c + 1)
        same = [d for d in behind if cues[d - first][2] == hand]
        if same:
            must(e, 2 * min(same) + 1, settings["apart"], "apart", c, min(same))
        for k in range(len(cuts)):
            t = cuts[k]
            if t - begin >= settings["shy"] and end - t >= settings["shy"]:
                must(b, 0, settings["shy"] - t, "early", c, k)
                must(0, e, t + settings["shy"], "late", c, k)
            elif begin + end <= 2 * t:
                must(e, 0, -t, "ahead", c, k)
            else:
                must(0, b, t, "behind", c, k)
    return told


CUES = [
    [],
    [cue(0, 1)],
    [cue(1000, 3000)],
    [cue(1000, 3000), cue(1000, 3000)],
    [cue(1000, 3000), cue(1000, 2000, "bert"), cue(1500, 4000, "bert", "a b c"), cue(1500, 1501, "anna", "~")],
    [cue(100 * place, 100 * place + 150, hand) for place, hand in enumerate("abcabbac" * 4)],
    [cue(100 * place, GREAT - place, "anna" + "x" * (place % 5), "w " * place + "w") for place in range(100)],
    [cue(GREAT - 1, GREAT)],
]
CUTS = [[], [0], [2000], [1200, 2000, 2800], [3, 2, 2, 1], [GREAT], list(range(0, 3500, 199))]
ALL_SETTINGS = [
    SETTINGS,
    with_settings(sign=0, least=1, most=0, apart=0, shy=1, begin=0, end=0),
    with_settings(sign=10 ** 9, least=10 ** 9, most=10 ** 9, apart=10 ** 9, shy=10 ** 9, begin=99, end=99),
    with_settings(sign=1, least=5, apart=7, shy=1000, begin=0, end=98),
]


class RulesOfCues(unittest.TestCase):
    def test_one_cue(self):
        self.assertEqual(rules_of(SETTINGS, [cue(1000, 3000, "anna", "Good morning, everybody.")], []), [
            (0, 1, 0, None, ("start", 0)),
            (1, 2, 1440, None, ("long", 0)),
            (2, 1, -7000, None, ("most", 0)),
            (0, 1, 1000, 2, ("wish", 0)),
            (1, 0, -1000, 2, ("wish", 0)),
            (0, 2, 3000, 1, ("wish", 0)),
            (2, 0, -3000, 1, ("wish", 0)),
        ])

    def test_three_cues_with_a_cut(self):
        cues = [cue(1000, 3000), cue(1100, 2100, "bert"), cue(3000, 5000)]
        told = rules_of(SETTINGS, cues, [2000])
        musts = [rule for rule in told if rule[3] is None]
        self.assertEqual(musts, [
            (0, 1, 0, None, ("start", 0)), (1, 2, 1000, None, ("long", 0)), (2, 1, -7000, None, ("most", 0)),
            (1, 3, 0, None, ("order", 0, 1)), (2, 5, 80, None, ("apart", 0, 2)),
            (1, 0, -1800, None, ("early", 0, 0)), (0, 2, 2200, None, ("late", 0, 0)),
            (0, 3, 0, None, ("start", 1)), (3, 4, 1000, None, ("long", 1)), (4, 3, -7000, None, ("most", 1)),
            (3, 5, 0, None, ("order", 1, 2)), (4, 0, -2000, None, ("ahead", 1, 0)),
            (0, 5, 0, None, ("start", 2)), (5, 6, 1000, None, ("long", 2)), (6, 5, -7000, None, ("most", 2)),
            (0, 5, 2000, None, ("behind", 2, 0)),
        ])

    def test_by_the_words(self):
        for settings in ALL_SETTINGS:
            for cues in CUES:
                for cuts in CUTS:
                    self.assertEqual(rules_of(settings, cues, cuts), by_the_words(settings, cues, cuts, 0))
                    for first in (0, 1, 7):
                        told = rules_of(settings, cues, cuts, first)
                        self.assertEqual(told, by_the_words(settings, cues, cuts, first))

    def test_kinds(self):
        told = rules_of(SETTINGS, CUES[4], CUTS[3], 2)
        self.assertIs(type(told), list)
        for rule in told:
            self.assertEqual([type(part) for part in rule[:3]], [int] * 3)
            self.assertIs(type(rule), tuple)
            self.assertIs(type(rule[4]), tuple)
            self.assertEqual([type(part) for part in rule[4]], [str] + [int] * (len(rule[4]) - 1))
            self.assertTrue(rule[3] is None or type(rule[3]) is int)

    def test_no_cues(self):
        for cuts in CUTS:
            self.assertEqual(rules_of(SETTINGS, [], cuts), [])
            self.assertEqual(rules_of(SETTINGS, [], cuts, 5), [])

    def test_the_least_length(self):
        for sign, least, words, length in [(60, 1000, "a" * 16, 1000), (60, 1000, "a" * 17, 1020), (50, 1000, "a" * 20, 1000),
                                           (50, 1001, "a" * 20, 1001), (50, 999, "a" * 20, 1000), (0, 1, "a b c", 1),
                                           (10, 1, "a b c", 50), (1, 1, "~", 1), (10 ** 9, 1, "ab", 2 * 10 ** 9)]:
            rule = rules_of(with_settings(sign=sign, least=least), [cue(0, 1, "anna", words)], [])[1]
            self.assertEqual(rule, (1, 2, length, None, ("long", 0)))

    def test_the_next_cue_and_the_next_one_of_the_hand(self):
        hands = ["anna", "bert", "anna", "cleo", "cleo", "bert", "ann"]
        cues = [cue(0, 1, hand) for hand in hands]
        whys = [rule[4] for rule in rules_of(SETTINGS, cues, [], 3)]
        self.assertEqual([why for why in whys if why[0] == "order"],
                         [("order", c, c + 1) for c in range(3, 9)])
        self.assertEqual([why for why in whys if why[0] == "apart"],
                         [("apart", 3, 5), ("apart", 4, 8), ("apart", 6, 7)])

    def test_cuts_around_one_cue(self):
        settings = with_settings(shy=200)
        for cut, told in [(0, ["behind"]), (799, ["behind"]), (1000, ["behind"]), (1001, ["behind"]), (1199, ["behind"]),
                          (1200, ["early", "late"]), (1201, ["early", "late"]), (2000, ["early", "late"]),
                          (2799, ["early", "late"]), (2800, ["early", "late"]), (2801, ["ahead"]), (2999, ["ahead"]),
                          (3000, ["ahead"]), (3001, ["ahead"]), (GREAT, ["ahead"])]:
            rules = rules_of(settings, [cue(1000, 3000)], [cut])[7:]
            self.assertEqual([rule[4] for rule in rules], [(word, 0, 0) for word in told], cut)

    def test_cuts_around_the_middle_of_a_short_cue(self):
        settings = with_settings(shy=200)
        for begin, end, cut, told in [(1000, 1300, 1149, "behind"), (1000, 1300, 1150, "ahead"), (1000, 1300, 1151, "ahead"),
                                      (1000, 1301, 1150, "behind"), (1000, 1301, 1151, "ahead"), (1000, 1399, 1200, "ahead"),
                                      (1001, 1400, 1200, "behind"), (0, 1, 0, "behind"), (0, 1, 1, "ahead")]:
            rules = rules_of(settings, [cue(begin, end)], [cut])[7:]
            self.assertEqual([rule[4] for rule in rules], [(told, 0, 0)], (begin, end, cut))
        self.assertEqual([rule[4][0] for rule in rules_of(settings, [cue(1000, 1400)], [1200])[7:]], ["early", "late"])

    def test_cuts_keep_their_order(self):
        whys = [rule[4] for rule in rules_of(SETTINGS, [cue(1000, 3000), cue(1000, 4000)], [3000, 0, 2000, 0])]
        self.assertEqual([why for why in whys if why[0] in ("ahead", "behind", "early", "late")], [
            ("ahead", 0, 0), ("behind", 0, 1), ("early", 0, 2), ("late", 0, 2), ("behind", 0, 3),
            ("early", 1, 0), ("late", 1, 0), ("behind", 1, 1), ("early", 1, 2), ("late", 1, 2), ("behind", 1, 3)])


class AcrossCuts(unittest.TestCase):
    def test_who_keeps_the_rules_goes_across_no_cut_by_less_than_shy(self):
        kept = 0
        for shy, begin, length, cut in itertools.product((1, 2, 3), range(5), range(1, 6), range(9)):
            settings = with_settings(sign=0, least=1, most=9, apart=0, shy=shy)
            rules = rules_of(settings, [cue(begin, begin + length)], [cut])
            across = begin + shy <= cut <= begin + length - shy
            for one, other in itertools.combinations(range(10), 2):
                right = (one + shy <= cut <= other - shy) if across else (
                    other <= cut if 2 * begin + length <= 2 * cut else one >= cut)
                self.assertEqual(keeps_all([0, one, other], rules), right, (shy, begin, length, cut, one, other))
                self.assertEqual(broken(rules, [0, one, other]) == [], right)
                if right:
                    kept += 1
                    self.assertFalse(one < cut < other and min(cut - one, other - cut) < shy)
        self.assertGreater(kept, 1000)


class RulesBeside(unittest.TestCase):
    def test_one_pair(self):
        self.assertEqual(rules_beside([(0, 3)], 250), [
            (1, 7, -250, None, ("begins", 0, 3)),
            (7, 1, -250, None, ("begins", 3, 0)),
            (2, 8, -250, None, ("ends", 0, 3)),
            (8, 2, -250, None, ("ends", 3, 0)),
        ])

    def test_turned_round(self):
        self.assertEqual(rules_beside([(3, 0)], 250), [
            (7, 1, -250, None, ("begins", 3, 0)),
            (1, 7, -250, None, ("begins", 0, 3)),
            (8, 2, -250, None, ("ends", 3, 0)),
            (2, 8, -250, None, ("ends", 0, 3)),
        ])

    def test_both_alike(self):
        self.assertEqual(rules_beside([(2, 2)], 5), [(5, 5, -5, None, ("begins", 2, 2))] * 2
                         + [(6, 6, -5, None, ("ends", 2, 2))] * 2)

    def test_within_0(self):
        told = rules_beside([(1, 2)], 0)
        self.assertEqual([rule[:4] for rule in told], [(3, 5, 0, None), (5, 3, 0, None), (4, 6, 0, None), (6, 4, 0, None)])
        self.assertEqual(broken(told, [0, 0, 0, 4, 9, 4, 9]), [])
        self.assertEqual(broken(told, [0, 0, 0, 4, 9, 5, 8]), [1, 2])

    def test_several_pairs(self):
        pairs = [(0, 5), (1, 6), (6, 1), (0, 5), (4, 4)]
        told = rules_beside(pairs, 10 ** 9)
        self.assertEqual(told, sum([rules_beside([pair], 10 ** 9) for pair in pairs], []))
        self.assertEqual(len(told), 20)

    def test_no_pairs(self):
        self.assertEqual(rules_beside([], 7), [])

    def test_what_they_keep(self):
        rules = rules_beside([(0, 1)], 2)
        for times in itertools.product(range(5), repeat=4):
            beside = abs(times[0] - times[2]) <= 2 and abs(times[1] - times[3]) <= 2
            self.assertEqual(broken(rules, [0] + list(times)) == [], beside)


def rule(low, high, least, weight):
    return (low, high, least, weight, ("rule",))


class BrokenAndPrice(unittest.TestCase):
    def test_just_kept_and_lacking(self):
        for least in (-5, 0, 5, GREAT, -GREAT):
            for base in (0, 3, -GREAT):
                for way, lacks in [(0, 0), (1, 0), (GREAT, 0), (-1, 1), (-7, 7), (-GREAT, GREAT)]:
                    times = [0, base, base + least + way]
                    self.assertEqual(broken([rule(1, 2, least, None)], times), [0] if lacks else [])
                    self.assertEqual(price([rule(1, 2, least, None)], times), 0)
                    for weight in (0, 1, 2, 98, 99):
                        self.assertEqual(broken([rule(1, 2, least, weight)], times), [])
                        self.assertEqual(price([rule(1, 2, least, weight)], times), weight * lacks)

    def test_rules_of_one_point(self):
        for moment in (0, 4, -4, GREAT):
            for least, lacks in [(-3, 0), (0, 0), (1, 1), (8, 8)]:
                self.assertEqual(broken([rule(1, 1, least, None)], [0, moment]), [0] if lacks else [])
                self.assertEqual(price([rule(1, 1, least, 3)], [0, moment]), 3 * lacks)
        self.assertEqual(broken([rule(0, 0, 1, None), rule(0, 0, 0, None)], [0]), [0])

    def test_numbers_rise_and_prices_come_together(self):
        rules = [rule(0, 1, 6, None), rule(0, 1, 6, 4), rule(1, 0, -5, None), rule(1, 2, 3, None), rule(2, 1, 0, 7),
                 rule(0, 1, 9, None), rule(0, 2, 8, 99), rule(0, 1, 6, None)]
        self.assertEqual(broken(rules, [0, 5, 7]), [0, 3, 5, 7])
        self.assertEqual(price(rules, [0, 5, 7]), 4 * 1 + 7 * 2 + 99 * 1)
        self.assertEqual(broken(rules, [0, 9, 12]), [2])
        self.assertEqual(price(rules, [0, 9, 12]), 7 * 3)

    def test_no_rules(self):
        self.assertEqual((broken([], [0]), price([], [0, 3])), ([], 0))

    def test_by_the_words(self):
        for seed in range(60):
            rules = some_rules(seed, 6, 40, 20, 50)
            for times in ([0] * 7, [0, 5, -5, 12, 3, 20, -20], [0] + [seed * place % 23 for place in range(6)]):
                self.assertEqual(broken(rules, times), [number for number, one in enumerate(rules)
                                                        if one[3] is None and not keeps(times, one)])
                self.assertEqual(price(rules, times), cost(times, rules))

    def test_kinds(self):
        rules = some_rules(1, 3, 20, 20, 50)
        self.assertIs(type(broken(rules, [0, 1, 2, 3])), list)
        self.assertEqual({type(number) for number in broken(rules, [0, 1, 2, 3])}, {int})
        self.assertIs(type(price(rules, [0, 1, 2, 3])), int)
        self.assertIs(type(price([], [0])), int)


class Values(unittest.TestCase):
    def test_nothing_handed_in_is_changed(self):
        things = [copy.deepcopy(SETTINGS), copy.deepcopy(CUES[4]), [2000, 3, 2000], [(0, 1), (1, 0)], [0] * 9]
        before = copy.deepcopy(things)
        rules = rules_of(things[0], things[1], things[2])
        rules_of(things[0], things[1], things[2], 1)
        rules_beside(things[3], 4)
        kept = copy.deepcopy(rules)
        broken(rules, things[4])
        price(rules, things[4])
        self.assertEqual((things, rules), (before, kept))

    def test_lists_are_the_askers_own(self):
        settings, cues, cuts, pairs = dict(SETTINGS), list(CUES[4]), [2000], [(0, 1)]
        for ask in (lambda: rules_of(settings, cues, cuts), lambda: rules_of(settings, [], cuts),
                    lambda: rules_beside(pairs, 3), lambda: rules_beside([], 3), lambda: broken([rule(0, 0, 1, None)], [0]),
                    lambda: broken([], [0])):
            told = ask()
            before = copy.deepcopy(told)
            self.assertIsNot(ask(), told)
            told.append("more")
            told.reverse()
            self.assertEqual(ask(), before)

    def test_what_is_handed_in_may_be_changed_later(self):
        settings, cues, cuts, pairs = dict(SETTINGS), list(CUES[4]), [2000], [(0, 1)]
        told, beside = rules_of(settings, cues, cuts), rules_beside(pairs, 3)
        before = copy.deepcopy((told, beside))
        settings.clear()
        cues.clear()
        cuts.clear()
        pairs.clear()
        self.assertEqual((told, beside), before)


if __name__ == "__main__":
    unittest.main()
