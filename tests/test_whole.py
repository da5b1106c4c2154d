"""What holds over the whole program: [4], the interface, and [2] as far as it speaks of all of it."""

import ast
import importlib
import inspect
import itertools
import pathlib
import random
import unittest
from unittest import mock

from cuetimer.clocks import Frames, Thousandths
from cuetimer.cues import are_cues, read_cues, show_cues
from cuetimer.desk import Desk
from cuetimer.errors import NoParting, NoTiming
from cuetimer.frames import frame_of, is_label, label_of
from cuetimer.keeping import is_ring, keeping
from cuetimer.least import is_flow, least_timing, lets_by
from cuetimer.moments import frame_near, moment_of
from cuetimer.parting import lets_parting, parted, parting_price, parting_table
from cuetimer.rules import price, rules_beside, rules_of
from cuetimer.sides import best_break, join_cues, part_cue
from cuetimer.timed import timed_both, timed_cues

PACKAGE = pathlib.Path(__file__).resolve().parent.parent / "cuetimer"
SETTINGS = {"sign": 60, "least": 1000, "most": 7000, "apart": 80, "shy": 200, "begin": 2, "end": 1}
NUMBERINGS = [(30, 2, 10), (25, 0, 1), (1, 0, 1), (999, 998, 2), (60, 4, 10), (7, 3, 60), (100, 5, 1)]
CLOCKS = [Thousandths()] + [Frames(numbering) for numbering in NUMBERINGS]

FUNCTIONS = {
    "frames": ["is_label(numbering, thing)", "label_of(numbering, frame)", "frame_of(numbering, label)"],
    "moments": ["begin_of(rate, frame)", "moment_of(rate, frame)", "frame_near(rate, moment)", "frame_on(rate, moment)",
                "show_moment(moment)", "show_frame(numbering, frame)", "read_moment(text)", "read_frame(numbering, text)"],
    "cues": ["is_cue(thing)", "are_cues(things)", "show_cues(clock, cues)", "read_cues(clock, text)"],
    "places": ["moved(places, n)", "turned(places)", "moved_cues(places, cues)"],
    "rules": ["rules_of(settings, cues, cuts, first=0)", "rules_beside(pairs, within)", "broken(rules, times)",
              "price(rules, times)"],
    "keeping": ["keeping(many, rules)", "is_ring(rules, numbers)"],
    "least": ["is_flow(many, rules, flow)", "worth(rules, flow)", "least_timing(many, rules)",
              "lets_by(many, rules, times, flow)"],
    "parting": ["parting_price(rows, wide)", "parting_table(words, wide, most)", "parted(words, wide, most)",
                "lets_parting(words, wide, most, rows, table)"],
    "sides": ["best_break(words)", "part_cue(cue, n)", "join_cues(one, other)"],
    "timed": ["timed_cues(settings, cues, cuts)", "timed_both(settings, ones, others, pairs, within, cuts)"],
}


class Interface(unittest.TestCase):
    def test_functions(self):
        for module, functions in FUNCTIONS.items():
            found = importlib.import_module("cuetimer." + module)
            for function in functions:
                name = function.partition("(")[0]
                self.assertEqual(name + str(inspect.signature(getattr(found, name))), function)

    def test_classes(self):
        self.assertEqual(str(inspect.signature(Desk)), "()")
        self.assertEqual(str(inspect.signature(Desk.say)), "(self, row)")
        for clock in (Thousandths, Frames):
            self.assertEqual(str(inspect.signature(clock.show)), "(self, moment)")
            self.assertEqual(str(inspect.signature(clock.read)), "(self, text)")

    def test_nothing_is_drawn_from_outside(self):
        for path in sorted(PACKAGE.glob("*.py")):
            for node in ast.walk(ast.parse(path.read_text())):
                self.assertNotIsInstance(node, ast.Import)
                if isinstance(node, ast.ImportFrom):
                    self.assertTrue(node.module.startswith("cuetimer."), path)


def some_cues(seed, many):
    chance = random.Random(seed)
    begins = sorted(chance.randint(0, 3000 * many) for _ in range(many))
    return [(begin, begin + chance.randint(1, 4000), chance.choice(["anna", "bert", "cleo"]),
             " ".join(chance.choice(["so,", "yes.", "no!", "well", "a", "morning", "up;"]) for _ in range(chance.randint(1, 9))))
            for begin in begins]


def some_cuts(seed):
    chance = random.Random(seed)
    return sorted(chance.randint(0, 20000) for _ in range(seed % 3))


class Promise(unittest.TestCase):
    def test_frames_and_labels_are_one_to_one(self):
        for numbering in NUMBERINGS:
            frames = list(range(3000)) + [10 ** 18 - 1, 10 ** 18]
            labels = [label_of(numbering, frame) for frame in frames]
            self.assertTrue(all(is_label(numbering, label) for label in labels))
            self.assertEqual([frame_of(numbering, label) for label in labels], frames)
            self.assertEqual(len(set(labels)), len(frames))
            self.assertEqual(labels, sorted(labels))

    def test_frames_and_moments_go_there_and_back(self):
        for rate in [(24, 1), (25, 1), (30000, 1001), (999, 1), (1, 1000000), (999999999, 1000000)]:
            for frame in [0, 1, 2, 3, 99, 1000, 12345, 10 ** 18 - 1, 10 ** 18]:
                self.assertEqual(frame_near(rate, moment_of(rate, frame)), frame)

    def test_cues_that_are_written_and_read_again_are_the_same(self):
        for seed, clock in itertools.product(range(15), CLOCKS):
            cues = some_cues(seed, seed)
            self.assertEqual(read_cues(clock, show_cues(clock, cues)), cues)

    def test_timings(self):
        answers = []
        for seed in range(80):
            cues, cuts = some_cues(seed, 1 + seed % 7), some_cuts(seed)
            rules = rules_of(SETTINGS, cues, cuts)
            answers.append(self.check(rules, 2 * len(cues), lambda: [timed_cues(SETTINGS, cues, cuts)]))
        self.assertEqual(set(answers), {"timed", "ring"})

    def test_timings_of_two_tongues(self):
        answers = []
        for seed in range(80):
            ones, others, cuts = some_cues(seed, 1 + seed % 5), some_cues(seed + 500, 1 + seed % 4), some_cuts(seed)
            pairs = [(place, place) for place in range(min(len(ones), len(others)))][:seed % 3]
            within = (0, 100, 6000)[seed % 3]
            rules = rules_of(SETTINGS, ones, cuts) + rules_of(SETTINGS, others, cuts, len(ones))
            rules += rules_beside([(c, d + len(ones)) for c, d in pairs], within)
            answers.append(self.check(rules, 2 * (len(ones) + len(others)),
                                      lambda: timed_both(SETTINGS, ones, others, pairs, within, cuts)))
        self.assertEqual(set(answers), {"timed", "ring"})

    def check(self, rules, many, ask):
        told = least_timing(many, rules)
        self.assertEqual(told[0] == "timed", keeping(many, rules)[0] == "kept")
        if told[0] == "timed":
            self.assertTrue(lets_by(many, rules, told[1], told[2]))
            timed = ask()
            self.assertTrue(all(are_cues(cues) for cues in timed))
            times = [0] + [moment for cues in timed for cue in cues for moment in cue[:2]]
            self.assertTrue(lets_by(many, rules, times, told[2]))
            self.assertEqual(price(rules, times), price(rules, told[1]))
        else:
            self.assertTrue(is_ring(rules, told[1]))
            ring = [rules[number] for number in told[1]]
            for place in range(len(ring)):
                self.assertEqual(keeping(many, ring[:place] + ring[place + 1:])[0], "kept")
            with self.assertRaises(NoTiming) as caught:
                ask()
            whys = [rule[4] for rule in rules]
            self.assertTrue(all(why in whys for why in caught.exception.ring))
        return told[0]

    def test_rows(self):
        answers = []
        for cue in some_cues(3, 60):
            for wide, most in [(6, 2), (8, 5), (12, 3), (20, 2), (40, 1), (100, 5)]:
                table = parting_table(cue[3], wide, most)
                try:
                    rows = parted(cue[3], wide, most)
                except NoParting:
                    self.assertEqual([prices[-1] for prices in table], [None] * (most + 1))
                    answers.append("refused")
                    continue
                self.assertTrue(lets_parting(cue[3], wide, most, rows, table))
                self.assertEqual(min(prices[-1] for prices in table if prices[-1] is not None), parting_price(rows, wide))
                answers.append("parted")
        self.assertEqual(set(answers), {"parted", "refused"})

    def test_what_is_parted_and_joined_is_the_cue_again(self):
        parted_ones = 0
        for cue in some_cues(5, 80):
            try:
                one, other = part_cue(cue, best_break(cue[3]))
            except NoParting:
                continue
            parted_ones += 1
            self.assertEqual(join_cues(one, other), cue)
        self.assertGreater(parted_ones, 50)

    def test_the_checkers_time_nothing_and_part_nothing(self):
        cues = some_cues(1, 4)
        rules = rules_of(SETTINGS, cues, [])
        told = least_timing(8, rules)
        ring = keeping(0, [(0, 0, 1, None, ())])[1]
        table = parting_table("a b c", 3, 2)
        out = ["keeping.keeping", "keeping.raise_points", "least.keeping", "least.least_timing", "least.Tree", "parting.parted",
               "parting.parting_table", "parting.list_below"]
        patches = [mock.patch("cuetimer." + name, None) for name in out]
        for patch in patches:
            patch.start()
            self.addCleanup(patch.stop)
        self.assertIs(lets_by(8, rules, told[1], told[2]), True)
        self.assertIs(is_flow(8, rules, told[2]), True)
        self.assertIs(is_ring([(0, 0, 1, None, ())], ring), True)
        self.assertIs(lets_parting("a b c", 3, 2, ["a b", "c"], table), True)


class ADay(unittest.TestCase):
    def test_a_day_at_the_desk(self):
        desk = Desk()
        rows = [
            ("cues en\n00:00:01.000 00:00:03.000 anna Good morning, my dear friends. How are you?\n"
             "00:00:03.000 00:00:04.200 bert Well!", "ok"),
            ("cues de\n00:00:01.100 00:00:03.450 anna Guten Morgen, liebe Freunde. Wie geht es?\n"
             "00:00:03.500 00:00:04.000 bert Gut!", "ok"),
            ("set apart 100", "ok"),
            ("cut 00:00:03.300", "ok"),
            ("broken en", "long 0"),
            ("broken de", "long 0, ahead 0 0, long 1"),
            ("price en", "860"),
            ("rows en 0 30 2", "Good morning, my dear friends.\nHow are you?"),
            ("part en 0", "ok"),
            ("show en", "00:00:01.000 00:00:02.000 anna Good morning, my dear\n"
                        "00:00:02.000 00:00:03.000 anna friends. How are you?\n00:00:03.000 00:00:04.200 bert Well!"),
            ("join en 0", "ok"),
        ]
        for row, told in rows:
            self.assertEqual(desk.say(row), told, row)
        desk.say("set most 2579")
        self.assertRaises(NoTiming, desk.say, "time en en")
        for row in ("set most 2580", "time en new", "set sign 50", "both en de 400 en de"):
            self.assertEqual(desk.say(row), "ok")
        for row in ("broken en", "broken de"):
            self.assertEqual(desk.say(row), "none")
        self.assertEqual(desk.say("show en"), "00:00:01.000 00:00:03.150 anna Good morning, my dear friends. How are you?\n"
                                              "00:00:03.000 00:00:04.200 bert Well!")


if __name__ == "__main__":
    unittest.main()
