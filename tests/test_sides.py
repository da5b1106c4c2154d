"""Words broken, cues parted and joined: [26], and [2] as far as it speaks of them."""

import math
import random
import unittest
from fractions import Fraction

from cuetimer.cues import are_cues, is_cue
from cuetimer.errors import CueError, NoJoin, NoParting
from cuetimer.sides import best_break, join_cues, part_cue

GREAT = 10 ** 18

SOME_WORDS = ["a b", "one, two", "Good morning, my dear friends. How are you?", "a b c", "a b c d", "a. b c", "a b. c",
              "aaaa b", "b aaaa", "No! " * 20 + "Yes.", "a " * 199 + "a", "x. y: z; w", "., ;: !? ab", "a" * 30 + " b c"]


def some_words(seed):
    chance = random.Random(seed)
    return " ".join("x" * chance.choice([0, 1, 2, 9]) + chance.choice("abc.!?,;:~") for _ in range(chance.randint(2, 9)))


ALL_WORDS = SOME_WORDS + [some_words(seed) for seed in range(150)]


def cue(begin, end, words, hand="anna"):
    return (begin, end, hand, words)


def by_a_search(words):
    parts = words.split(" ")
    best = None
    for n in range(len(parts) - 1, 0, -1):
        left, right = " ".join(parts[:n]), " ".join(parts[n:])
        cost = 0 if left[-1] in ".!?" else 50 if left[-1] in ",;:" else 200
        cost += (len(left) - len(right)) ** 2
        if best is None or cost <= best[0]:
            best = (cost, n)
    return best[1]


class BestBreak(unittest.TestCase):
    def test_against_a_search(self):
        for words in ALL_WORDS:
            told = best_break(words)
            self.assertIs(type(told), int)
            self.assertEqual(told, by_a_search(words), words)

    def test_known_ones(self):
        for words, told in [("a b", 1), ("a b c", 1), ("a b c d", 2), ("aa b cc", 1), ("aaa b cc", 1), ("aa b ccc", 2),
                            ("Good morning, my dear friends. How are you?", 4), ("Good morning, friends. How are you?", 3), ("No. no no no no no no", 1), ("No. no no no no no no no", 4),
                            ("No. no no no", 1), ("a b, c d", 2), ("a, b c, d", 1), ("a. b c d e", 1), ("a b. c", 2)]:
            self.assertEqual(best_break(words), told, words)

    def test_of_several_the_least(self):
        for words, told in [("a b c", 1), ("aa b b aa", 2), ("a. b. c.", 1), ("a, b, c,", 1), ("a b c d e", 2)]:
            self.assertEqual(best_break(words), told)

    def test_one_word(self):
        for words in ("a", "Hello.", "~" * 30, ".", "a.b"):
            with self.assertRaises(NoParting) as caught:
                best_break(words)
            self.assertIsInstance(caught.exception, CueError)


class PartCue(unittest.TestCase):
    def refuse(self, one, n):
        with self.assertRaises(NoParting) as caught:
            part_cue(one, n)
        self.assertIsInstance(caught.exception, CueError)

    def test_each_break(self):
        for words in ALL_WORDS:
            parts = words.split(" ")
            for begin, end in [(0, 1000), (7, 8), (1000, 1003), (0, GREAT), (GREAT - 1, GREAT), (5, 123456789)]:
                one = cue(begin, end, words, "zzz")
                for n in range(-1, len(parts) + 3):
                    left, right = " ".join(parts[:max(n, 0)]), " ".join(parts[max(n, 0):])
                    if not 1 <= n <= len(parts) - 1:
                        self.refuse(one, n)
                        continue
                    middle = begin + math.floor(Fraction((end - begin) * len(left), len(left) + len(right)))
                    if middle == begin:
                        self.refuse(one, n)
                        continue
                    told = part_cue(one, n)
                    self.assertIs(type(told), tuple)
                    self.assertEqual(told, ((begin, middle, "zzz", left), (middle, end, "zzz", right)))
                    self.assertTrue(are_cues(list(told)))
                    self.assertEqual(join_cues(told[0], told[1]), one)

    def test_known_ones(self):
        self.assertEqual(part_cue(cue(1000, 2000, "Good morning."), 1),
                         (cue(1000, 1333, "Good"), cue(1333, 2000, "morning.")))
        self.assertEqual(part_cue(cue(0, 2, "a b"), 1), (cue(0, 1, "a"), cue(1, 2, "b")))
        self.assertEqual(part_cue(cue(0, 3, "a b"), 1), (cue(0, 1, "a"), cue(1, 3, "b")))

    def test_too_short(self):
        self.refuse(cue(0, 1, "a b"), 1)
        self.refuse(cue(5, 7, "a bb"), 1)
        self.assertEqual(part_cue(cue(5, 8, "a bb"), 1), (cue(5, 6, "a"), cue(6, 8, "bb")))
        self.assertEqual(part_cue(cue(5, 7, "aa b"), 1), (cue(5, 6, "aa"), cue(6, 7, "b")))
        self.refuse(cue(0, 9, "a " + "b" * 9), 1)
        self.assertEqual(part_cue(cue(0, 10, "a " + "b" * 9), 1)[0], cue(0, 1, "a"))

    def test_one_word(self):
        for n in range(-1, 4):
            self.refuse(cue(0, 1000, "Hello."), n)


class JoinCues(unittest.TestCase):
    def refuse(self, one, other):
        with self.assertRaises(NoJoin) as caught:
            join_cues(one, other)
        self.assertIsInstance(caught.exception, CueError)

    def test_known_ones(self):
        self.assertEqual(join_cues(cue(0, 10, "a b"), cue(10, 15, "c")), cue(0, 15, "a b c"))
        self.assertEqual(join_cues(cue(0, 10, "a"), cue(GREAT - 1, GREAT, "c")), cue(0, GREAT, "a c"))
        self.assertTrue(is_cue(join_cues(cue(0, 10, "a"), cue(11, 12, "c"))))

    def test_two_hands(self):
        self.refuse(cue(0, 10, "a"), cue(10, 15, "b", "bert"))
        self.refuse(cue(0, 10, "a", "ann"), cue(10, 15, "b", "anna"))
        self.refuse(cue(0, 10, "a"), cue(5, 15, "b", "bert"))

    def test_begins_around_the_end(self):
        for begin in range(0, 10):
            self.refuse(cue(0, 10, "a"), cue(begin, 15, "b"))
        for begin in range(10, 14):
            self.assertEqual(join_cues(cue(0, 10, "a"), cue(begin, 15, "b")), cue(0, 15, "a b"))
        self.refuse(cue(100, 110, "a"), cue(0, 10, "b"))

    def test_what_is_joined_is_new_and_nothing_is_changed(self):
        one, other = cue(0, 10, "a"), cue(10, 15, "b")
        self.assertIs(type(join_cues(one, other)), tuple)
        self.assertEqual((one, other), (cue(0, 10, "a"), cue(10, 15, "b")))


if __name__ == "__main__":
    unittest.main()
