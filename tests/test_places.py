"""Known places: [13] to [15], and [2] and [3] as far as they speak of them."""

import copy
import math
import unittest
from fractions import Fraction

from cuetimer.cues import are_cues
from cuetimer.errors import CueError, NoPlace, NoRoom
from cuetimer.places import moved, moved_cues, turned
from tests.odd_things import Hostile, no_texts

GREAT = 10 ** 18

PLACES = [
    [(0, 0)],
    [(5, 8)],
    [(8, 5)],
    [(-7, 3)],
    [(3, -7)],
    [(0, 0), (10, 10)],
    [(0, 0), (2, 1)],
    [(0, 0), (1, 2)],
    [(0, -1), (2, 0)],
    [(-4, -9), (-1, -7), (3, -6), (5, 20)],
    [(-10, -3), (0, 0), (7, 2), (8, 9), (30, 31)],
    [(0, 100), (1000, 1100), (2000, 2050), (3000, 4000)],
    [(0, 0), (1000, 1001), (2000, 2003)],
    [(-GREAT, -GREAT), (GREAT, GREAT)],
    [(-GREAT, -GREAT), (0, 1), (GREAT, GREAT)],
    [(0, 0), (3, GREAT)],
    [(0, -GREAT), (7, GREAT)],
    [(0, 0), (GREAT, 7)],
    [(7 * number, 5 * number - 300) for number in range(200)],
    [(5 * number, 7 * number - 300) for number in range(200)],
]
NO_SHRINKING = [places for places in PLACES
                if all(d - b >= c - a for (a, b), (c, d) in zip(places, places[1:]))]


def moments_around(places):
    moments = list(range(-45, 46)) + [-GREAT, -GREAT + 1, GREAT - 1, GREAT, 123456789012345678]
    for old, new in places:
        moments += [old - 1, old, old + 1, new - 1, new, new + 1]
    for (a, b), (c, d) in zip(places, places[1:]):
        moments += [(a + c) // 2 - 1, (a + c) // 2, (a + c) // 2 + 1, (2 * a + c) // 3]
    return sorted(set(moments))


def by_the_words(places, n):
    """[13], word by word."""
    for old, new in places:
        if n == old:
            return new
    for (a, b), (c, d) in zip(places, places[1:]):
        if a < n < c:
            return math.floor(b + Fraction((n - a) * (d - b), c - a) + Fraction(1, 2))
    old, new = places[0] if n < places[0][0] else places[-1]
    return n + new - old


class Moved(unittest.TestCase):
    def test_each_moment(self):
        for places in PLACES:
            for n in moments_around(places):
                told = moved(places, n)
                self.assertIs(type(told), int)
                self.assertEqual(told, by_the_words(places, n), (places, n))

    def test_one_place(self):
        for n in (-GREAT, -1, 0, 1, 5, 8, GREAT):
            self.assertEqual(moved([(5, 8)], n), n + 3)
            self.assertEqual(moved([(8, 5)], n), n - 3)
            self.assertEqual(moved([(-7, 3)], n), n + 10)

    def test_known_moments(self):
        places = [(1000, 2000), (3000, 3000), (4000, 6000)]
        for n, told in [(-50, 950), (0, 1000), (999, 1999), (1000, 2000), (1001, 2001), (1002, 2001), (1003, 2002),
                        (2000, 2500), (2999, 3000), (3000, 3000), (3001, 3003), (3500, 4500), (4000, 6000), (4001, 6001),
                        (GREAT, GREAT + 2000)]:
            self.assertEqual(moved(places, n), told)

    def test_halves_up(self):
        self.assertEqual([moved([(0, 0), (4, 2)], n) for n in range(-1, 6)], [-1, 0, 1, 1, 2, 2, 3])
        self.assertEqual([moved([(0, -2), (4, 0)], n) for n in range(-1, 6)], [-3, -2, -1, -1, 0, 0, 1])
        self.assertEqual([moved([(-4, -12), (0, -10)], n) for n in range(-5, 2)], [-13, -12, -11, -11, -10, -10, -9])
        self.assertEqual([moved([(0, -3), (2, 0)], n) for n in range(3)], [-3, -1, 0])
        self.assertEqual([moved([(-2, -5), (0, 0)], n) for n in range(-2, 1)], [-5, -2, 0])

    def test_great_ones_are_not_rounded_away(self):
        self.assertEqual(moved([(-GREAT, -GREAT), (GREAT, GREAT)], GREAT - 1), GREAT - 1)
        self.assertEqual(moved([(0, 0), (3, GREAT)], 1), 333333333333333333)
        self.assertEqual(moved([(0, 0), (3, GREAT)], 2), 666666666666666667)

    def test_no_two_moments_are_turned_round(self):
        for places in PLACES:
            told = [moved(places, n) for n in moments_around(places)]
            self.assertEqual(told, sorted(told))


class Turned(unittest.TestCase):
    def test_each_pair_is_turned_round(self):
        for places in PLACES:
            told = turned(places)
            self.assertIs(type(told), list)
            self.assertEqual(told, [(new, old) for old, new in places])
            self.assertEqual([type(pair) for pair in told], [tuple] * len(places))
            self.assertEqual(turned(told), places)

    def test_there_and_back_where_no_piece_shrinks(self):
        self.assertGreater(len(NO_SHRINKING), 8)
        for places in NO_SHRINKING:
            back = turned(places)
            for n in moments_around(places):
                self.assertEqual(moved(back, moved(places, n)), n, (places, n))

    def test_the_places_themselves_go_there_and_back(self):
        for places in PLACES:
            for old, new in places:
                self.assertEqual(moved(places, old), new)
                self.assertEqual(moved(turned(places), new), old)


def cue(begin, end, hand="anna", words="Hello there."):
    return (begin, end, hand, words)


class CuesMoved(unittest.TestCase):
    def test_begins_and_ends_are_moved(self):
        cues = [cue(0, 1500, "bert", "a b"), cue(0, 2500), cue(999, 1000), cue(2000, GREAT, "zzzzzzzz", "~ !")]
        places = [(0, 100), (1000, 1100), (2000, 2050), (3000, 4000)]
        self.assertEqual(moved_cues(places, cues), [
            (100, 1575, "bert", "a b"), (100, 3025, "anna", "Hello there."), (1099, 1100, "anna", "Hello there."),
            (2050, GREAT + 1000, "zzzzzzzz", "~ !")])

    def test_each_begin_and_end(self):
        for places in PLACES:
            for begin, end in [(0, 1), (0, 40), (3, 9), (1000, 2001), (GREAT - 5, GREAT)]:
                there = (by_the_words(places, begin), by_the_words(places, end))
                if there[0] >= 0 and there[0] < there[1]:
                    told = moved_cues(places, [cue(begin, end)])
                    self.assertIs(type(told), list)
                    self.assertIs(type(told[0]), tuple)
                    self.assertEqual(told, [cue(there[0], there[1])])
                    self.assertTrue(are_cues(told))
                else:
                    self.refuse(places, [cue(begin, end)], 0)

    def test_no_cues(self):
        for places in PLACES:
            self.assertEqual(moved_cues(places, []), [])
            self.assertIs(type(moved_cues(places, [])), list)

    def refuse(self, places, cues, at):
        with self.assertRaises(NoRoom) as caught:
            moved_cues(places, cues)
        self.assertIsInstance(caught.exception, CueError)
        self.assertEqual(caught.exception.at, at)
        self.assertIs(type(caught.exception.at), int)
        self.assertEqual(moved_cues([(0, 1)], [cue(3, 5)]), [cue(4, 6)])

    def test_begins_before_0(self):
        self.assertEqual(moved_cues([(5, 0)], [cue(5, 6)]), [cue(0, 1)])
        self.refuse([(5, 0)], [cue(4, 6)], 0)
        self.refuse([(5, 0)], [cue(0, 1)], 0)
        self.refuse([(5, 0)], [cue(4, GREAT), cue(4, 6), cue(5, 6)], 0)

    def test_begins_and_ends_that_would_be_one(self):
        shrinking = [(0, 0), (1000, 1000), (1010, 1001)]
        self.assertEqual(moved_cues(shrinking, [cue(1004, 1005)]), [cue(1000, 1001)])
        self.refuse(shrinking, [cue(1000, 1004)], 0)
        self.refuse(shrinking, [cue(1005, 1010)], 0)

    def test_at_is_the_place_of_the_first_one(self):
        right = [cue(begin, begin + 100) for begin in (100, 100, 200, 300, 400)]
        shrinking = [(0, 0), (1000, 1000), (1010, 1001)]
        for place in range(6):
            cues = right[:place] + [cue(1000, 1004)]
            self.refuse(shrinking, cues, place)
            self.refuse(shrinking, cues + [cue(1000, 2000), cue(1001, 1002), cue(2000, 2001)], place)
            self.assertEqual(moved_cues(shrinking, right[:place]), right[:place])

    def test_the_first_one_of_either_kind(self):
        places = [(100, 0), (1000, 900), (1010, 901)]
        self.refuse(places, [cue(99, 1000), cue(1000, 1001)], 0)
        self.refuse(places, [cue(100, 1000), cue(1000, 1001), cue(1000, 1002)], 1)
        self.refuse(places, [cue(100, 1000), cue(500, 501), cue(1000, 1001)], 2)


def no_places():
    """What is of no use as places, whatever is moved."""
    pairs = [(0, 0), (10, 10), (20, 20)]
    things = [[], (), tuple(pairs), ((0, 0),), (0, 0), None, "", "places", {0: 0, 10: 10}, dict(pairs), iter(pairs),
              {(0, 0)}, range(2), 0, 1, True, 10 ** 5000, object(), Hostile(), [[(0, 0)]], [pairs], ["ab"], [""], [{}]]
    for pair in [(0,), (), (0, 0, 0), [0, 0], [], "00", None, 0, True, {0: 0, 1: 1}, {0, 1}, range(2), Hostile(),
                 (True, 0), (0, True), (False, False), (None, 0), (0, None), ("0", 0), (0, "0"), ((0,), 0), (0, [0]),
                 (Hostile(), 0), (0, Hostile()), (b"0", 0), ((0, 0), (1, 1))]:
        things += [[pair], [(-20, -20), pair], [pair, (20, 20)], [(-20, -20), pair, (20, 20)]]
    for one, other in [((0, 0), (0, 0)), ((0, 0), (0, 1)), ((0, 0), (1, 0)), ((0, 0), (-1, 1)), ((0, 0), (1, -1)),
                       ((0, 0), (-1, -1)), ((GREAT, 0), (GREAT, 1)), ((0, GREAT), (1, GREAT)), ((5, 5), (4, 6)),
                       ((5, 5), (6, 4))]:
        things += [[one, other], [(-20, -20), one, other], [one, other, (2 * GREAT, 2 * GREAT)]]
    return things + no_texts()


class WhatAreNoPlaces(unittest.TestCase):
    def refuse(self, ask):
        with self.assertRaises(NoPlace) as caught:
            ask()
        self.assertIsInstance(caught.exception, CueError)
        self.assertEqual(moved([(0, 1)], 5), 6)

    def test_moved(self):
        for thing in no_places():
            for n in (-GREAT, -20, 0, 20, GREAT):
                self.refuse(lambda: moved(thing, n))

    def test_turned(self):
        for thing in no_places():
            self.refuse(lambda: turned(thing))

    def test_moved_cues(self):
        for thing in no_places():
            self.refuse(lambda: moved_cues(thing, []))
            self.refuse(lambda: moved_cues(thing, [cue(0, 1), cue(500, 600)]))

    def test_ahead_of_no_room(self):
        self.assertRaises(NoRoom, moved_cues, [(5, 0), (6, 1)], [cue(0, 1)])
        self.refuse(lambda: moved_cues([(5, 0), (6, 0)], [cue(0, 1)]))
        self.refuse(lambda: moved_cues([(5, 0), (5, 1)], [cue(0, 1)]))
        self.refuse(lambda: moved_cues([(5, 0), [6, 1]], [cue(0, 1)]))

    def test_a_right_list_with_one_wrong_pair_at_each_place(self):
        right = [(10 * number, 10 * number) for number in range(20)]
        for place in range(20):
            for wrong in [(10 * place, True), [10 * place, 10 * place], (10 * place,), None, (10 * place, 10 * place - 10),
                          (10 * place - 10, 10 * place), (10 * place + 10, 10 * place), (10 * place, 10 * place + 10)]:
                places = right[:place] + [wrong] + right[place + 1:]
                fits = isinstance(wrong, tuple) and len(wrong) == 2 and wrong[1] is not True and (
                    (place == 0 and min(wrong) < 0) or (place == 19 and max(wrong) > 190))
                if fits:
                    self.assertEqual(turned(places), [(new, old) for old, new in places])
                else:
                    self.refuse(lambda: turned(places))
                    self.refuse(lambda: moved(places, 0))
                    self.refuse(lambda: moved_cues(places, []))


class Values(unittest.TestCase):
    def test_nothing_handed_in_is_changed(self):
        for places in PLACES:
            cues = [cue(5000, 9000), cue(5000, 5050), cue(6000, 7000)]
            before = copy.deepcopy((places, cues))
            moved(places, 17)
            turned(places)
            try:
                moved_cues(places, cues)
            except NoRoom:
                pass
            self.assertEqual((places, cues), before)

    def test_nothing_refused_is_changed(self):
        places, cues = [(0, 0), [1, 1]], [cue(0, 1)]
        for ask in (lambda: moved(places, 0), lambda: turned(places), lambda: moved_cues(places, cues)):
            self.assertRaises(NoPlace, ask)
        self.assertRaises(NoRoom, moved_cues, [(5, 0)], cues)
        self.assertEqual((places, cues), ([(0, 0), [1, 1]], [cue(0, 1)]))

    def test_lists_are_the_askers_own(self):
        places, cues = [(0, 0), (10, 10)], [cue(1, 2), cue(3, 4)]
        told, told_cues = turned(places), moved_cues(places, cues)
        self.assertEqual((told, told_cues), (places, cues))
        self.assertIsNot(told, places)
        self.assertIsNot(told_cues, cues)
        told.append((11, 30))
        told_cues.clear()
        self.assertEqual((places, cues), ([(0, 0), (10, 10)], [cue(1, 2), cue(3, 4)]))
        self.assertEqual((turned(places), moved_cues(places, cues)), (places, cues))

    def test_what_is_handed_in_may_be_changed_later(self):
        places, cues = [(0, 1), (10, 12)], [cue(0, 10)]
        told, told_cues = turned(places), moved_cues(places, cues)
        places.clear()
        cues.clear()
        self.assertEqual((told, told_cues), ([(1, 0), (12, 10)], [cue(1, 12)]))
        self.assertRaises(NoPlace, moved, places, 0)

    def test_no_cues_are_a_new_list_each_time(self):
        cues = []
        told = moved_cues([(0, 0)], cues)
        told.append("more")
        self.assertEqual((cues, moved_cues([(0, 0)], cues)), ([], []))


if __name__ == "__main__":
    unittest.main()
