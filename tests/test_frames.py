"""Frames and labels: [5], [6], what [4] says of them, and [2] and [3] as far as they speak of them."""

import itertools
import unittest

from cuetimer.errors import CueError, NoLabel
from cuetimer.frames import frame_of, is_label, label_of
from cuetimer.kinds import is_whole
from tests.odd_things import Hostile, in_each_place

NUMBERINGS = [
    (30, 2, 10), (60, 4, 10), (30, 0, 10), (25, 0, 1), (25, 0, 60), (24, 3, 59), (50, 1, 2), (100, 7, 3),
    (7, 6, 1), (2, 1, 2), (2, 1, 60), (10, 9, 60), (30, 29, 7), (1, 0, 1), (1, 0, 7), (1, 0, 60),
    (999, 0, 1), (999, 998, 60), (999, 998, 2), (999, 500, 13), (999, 1, 1),
]

GREAT_FRAMES = [10 ** 9, 123456789012, 10 ** 12 + 1, 10 ** 15 - 1, 2 ** 53, 2 ** 53 + 1, 999999999999999989,
                10 ** 18 - 1, 10 ** 18]


def left_out(numbering, label):
    """[5], word by word."""
    base, leave, every = numbering
    hours, minutes, seconds, frames = label
    return seconds == 0 and frames < leave and (60 * hours + minutes) % every != 0


def counted_on(base, label):
    """The next label, whether it is left out or not."""
    hours, minutes, seconds, frames = label
    frames += 1
    if frames == base:
        frames, seconds = 0, seconds + 1
    if seconds == 60:
        seconds, minutes = 0, minutes + 1
    if minutes == 60:
        minutes, hours = 0, hours + 1
    return (hours, minutes, seconds, frames)


def next_label(numbering, label):
    label = counted_on(numbering[0], label)
    while left_out(numbering, label):
        label = counted_on(numbering[0], label)
    return label


def minute_lengths(numbering):
    base, leave, every = numbering
    return [60 * base - (leave if minute % every else 0) for minute in range(every)]


def first_of_minute(numbering, minute):
    """The first frame of a minute and its label, by adding up the minutes ahead of it."""
    lengths = minute_lengths(numbering)
    every = numbering[2]
    frame = minute // every * sum(lengths) + sum(lengths[:minute % every])
    frames = numbering[1] if minute % every else 0
    return frame, (minute // 60, minute % 60, 0, frames)


def minutes_to_look_at(numbering):
    every = numbering[2]
    around = [0, 1, 2, 59, 60, 61, 119, 120, 121, 24 * 60, 10 ** 6 + 7, 10 ** 12 + 1]
    for times in (1, 2, 7, 60, 10 ** 6, 10 ** 12):
        around += [every * times - 1, every * times, every * times + 1]
    return sorted(set(around))


class EachNumbering(unittest.TestCase):
    def check(self, numbering, frame, label):
        self.assertEqual(label_of(numbering, frame), label)
        self.assertEqual(frame_of(numbering, label), frame)
        self.assertIs(is_label(numbering, label), True)

    def walk(self, numbering, frames):
        label = (0, 0, 0, 0)
        for frame in range(frames):
            if (label_of(numbering, frame), frame_of(numbering, label)) != (label, frame):
                self.check(numbering, frame, label)
            label = next_label(numbering, label)


class Walks(EachNumbering):
    def test_frame_0(self):
        for numbering in NUMBERINGS:
            with self.subTest(numbering=numbering):
                self.check(numbering, 0, (0, 0, 0, 0))

    def test_first_minutes_frame_by_frame(self):
        for numbering in NUMBERINGS:
            with self.subTest(numbering=numbering):
                self.walk(numbering, 3 * 60 * numbering[0] + 5)

    def test_first_hours_frame_by_frame(self):
        for numbering in [(1, 0, 1), (1, 0, 60), (2, 1, 2), (2, 1, 7), (2, 1, 60), (5, 4, 59), (5, 3, 13), (10, 9, 60)]:
            with self.subTest(numbering=numbering):
                self.walk(numbering, 60 * 60 * 2 * numbering[0] + 600)

    def test_ten_minutes_and_more_of_a_known_numbering(self):
        self.walk((30, 2, 10), 2 * 17982 + 2000)

    def test_all_small_numberings(self):
        for base, every in itertools.product(range(1, 5), (1, 2, 3, 60)):
            for leave in range(base):
                with self.subTest(numbering=(base, leave, every)):
                    self.walk((base, leave, every), 60 * base * 5)

    def test_each_next_frame_has_the_next_label(self):
        for numbering in NUMBERINGS:
            for frame in GREAT_FRAMES:
                with self.subTest(numbering=numbering, frame=frame):
                    label = label_of(numbering, frame - 3)
                    for there in range(frame - 3, frame + 4):
                        self.check(numbering, there, label)
                        label = next_label(numbering, label)


class Minutes(EachNumbering):
    def test_frames_around_the_first_frame_of_a_minute(self):
        for numbering in NUMBERINGS:
            for minute in minutes_to_look_at(numbering):
                with self.subTest(numbering=numbering, minute=minute):
                    frame, label = first_of_minute(numbering, minute)
                    self.check(numbering, frame, label)
                    self.check(numbering, frame + 1, next_label(numbering, label))
                    if minute > 0:
                        last = ((minute - 1) // 60, (minute - 1) % 60, 59, numbering[0] - 1)
                        self.check(numbering, frame - 1, last)

    def test_labels_left_out(self):
        for numbering in NUMBERINGS:
            leave, every = numbering[1:]
            for minute in minutes_to_look_at(numbering):
                for frames in {0, max(leave - 1, 0), leave}:
                    label = (minute // 60, minute % 60, 0, frames)
                    out = minute % every != 0 and frames < leave
                    with self.subTest(numbering=numbering, label=label):
                        self.assertIs(is_label(numbering, label), not out)
                        if out:
                            self.assertRaises(NoLabel, frame_of, numbering, label)
                    second = (minute // 60, minute % 60, 1, frames)
                    self.assertIs(is_label(numbering, second), True)

    def test_no_label_is_left_out_where_leave_is_0_or_every_is_1(self):
        for numbering in [(25, 0, 1), (25, 0, 7), (1, 0, 60), (25, 24, 1), (999, 998, 1)]:
            for label in [(0, 1, 0, 0), (0, 7, 0, 0), (3, 59, 0, 0), (99, 1, 0, numbering[0] - 1)]:
                hours, minutes, seconds, frames = label
                frame = ((60 * hours + minutes) * 60 + seconds) * numbering[0] + frames
                with self.subTest(numbering=numbering, label=label):
                    self.check(numbering, frame, label)


class Known(EachNumbering):
    def test_thirty_leaving_two(self):
        for frame, label in [
            (1, (0, 0, 0, 1)), (29, (0, 0, 0, 29)), (30, (0, 0, 1, 0)), (1799, (0, 0, 59, 29)), (1800, (0, 1, 0, 2)),
            (1827, (0, 1, 0, 29)), (1828, (0, 1, 1, 0)), (17981, (0, 9, 59, 29)), (17982, (0, 10, 0, 0)),
            (17983, (0, 10, 0, 1)), (107892, (1, 0, 0, 0)), (24 * 107892, (24, 0, 0, 0)),
        ]:
            self.check((30, 2, 10), frame, label)

    def test_one_a_second(self):
        for frame, label in [(59, (0, 0, 59, 0)), (60, (0, 1, 0, 0)), (3600, (1, 0, 0, 0)),
                             (10 ** 18, (277777777777777, 46, 40, 0))]:
            self.check((1, 0, 7), frame, label)

    def test_all_but_one_left_out(self):
        self.check((999, 998, 60), 59939, (0, 0, 59, 998))
        self.check((999, 998, 60), 59940, (0, 1, 0, 998))
        self.check((999, 998, 60), 59941, (0, 1, 1, 0))


class Order(unittest.TestCase):
    def test_a_frame_is_less_just_where_its_label_is(self):
        for numbering in NUMBERINGS:
            frames = list(GREAT_FRAMES)
            for minute in minutes_to_look_at(numbering):
                first = first_of_minute(numbering, minute)[0]
                frames += [first, first + 1, max(first - 1, 0)]
            labelled = [(frame, label_of(numbering, frame)) for frame in frames]
            with self.subTest(numbering=numbering):
                for (one, its), (other, others) in itertools.product(labelled, labelled):
                    if (one < other) != (its < others) or (one == other) != (its == others):
                        self.fail(f"{one} {its}, {other} {others}")

    def test_labels_in_their_order_have_frames_in_theirs(self):
        for numbering in NUMBERINGS:
            base = numbering[0]
            parts = itertools.product((0, 1, 2, 100), (0, 1, 10, 59), (0, 1, 59), sorted({0, base // 2, base - 1}))
            labels = [label for label in parts if not left_out(numbering, label)]
            frames = [frame_of(numbering, label) for label in labels]
            with self.subTest(numbering=numbering):
                self.assertEqual(frames, sorted(set(frames)))


class WhatIsNoLabel(unittest.TestCase):
    def refuse(self, numbering, thing):
        """The thing is refused, and a right label is taken behind that."""
        self.assertIs(is_label(numbering, thing), False)
        with self.assertRaises(NoLabel) as caught:
            frame_of(numbering, thing)
        self.assertIsInstance(caught.exception, CueError)
        self.assertIs(is_label(numbering, (0, 0, 1, 0)), True)
        self.assertEqual(frame_of(numbering, (0, 0, 1, 0)), numbering[0])

    def refuse_all(self, things):
        for numbering in [(30, 2, 10), (25, 0, 1), (1, 0, 60), (999, 998, 2)]:
            for number, thing in enumerate(things):
                with self.subTest(numbering=numbering, number=number):
                    self.refuse(numbering, thing)

    def test_numbers_too_great(self):
        for numbering in NUMBERINGS:
            base = numbering[0]
            for thing in [(0, 60, 1, 0), (0, 0, 60, 0), (0, 0, 1, base), (0, 61, 1, 0), (0, 0, 61, 0),
                          (0, 0, 1, base + 1), (0, 10 ** 18, 1, 0), (0, 0, 10 ** 18, 0), (0, 0, 1, 10 ** 18),
                          (0, 10 ** 5000, 1, 0)]:
                with self.subTest(numbering=numbering):
                    self.refuse(numbering, thing)
            self.assertIs(is_label(numbering, (0, 59, 59, base - 1)), True)

    def test_numbers_below_0(self):
        self.refuse_all(in_each_place((1, 1, 1, 0), -1) + in_each_place((1, 1, 1, 0), -(10 ** 18)))

    def test_truths(self):
        self.refuse_all(in_each_place((0, 0, 1, 0), True) + in_each_place((0, 0, 0, 0), False))

    def test_other_things_in_the_place_of_a_number(self):
        for thing in ["0", "", None, (), (0,), [0], {}, b"0", object(), Hostile(), int]:
            self.refuse_all(in_each_place((0, 0, 1, 0), thing))

    def test_one_thing_less_or_more(self):
        self.refuse_all([(), (0,), (0, 0, 1), (0, 0, 1, 0, 0), (0, 0, 0, 0, None), ((0, 0, 1, 0),), (0,) * 200])

    def test_what_is_no_tuple(self):
        itself = []
        itself.append(itself)
        self.refuse_all([[0, 0, 1, 0], None, 0, 1, 10 ** 5000, True, False, "", "0000", "00:00:01:00", b"0000", {},
                         {0: 0, 1: 0, 2: 1, 3: 0}, {0, 1, 2, 3}, range(4), iter((0, 0, 1, 0)), object(), Hostile(),
                         tuple, len, itself])

    def test_labels_left_out(self):
        for numbering, label in [((30, 2, 10), (0, 1, 0, 0)), ((30, 2, 10), (0, 1, 0, 1)), ((30, 2, 10), (1, 1, 0, 1)),
                                 ((30, 2, 10), (10 ** 15, 59, 0, 0)), ((2, 1, 2), (0, 1, 0, 0)),
                                 ((999, 998, 60), (7, 59, 0, 997)), ((10, 3, 7), (1, 0, 0, 2))]:
            with self.subTest(numbering=numbering, label=label):
                self.refuse(numbering, label)

    def test_whether_a_minute_is_divisible_is_told_by_its_number_with_the_hours(self):
        self.assertIs(is_label((10, 3, 7), (1, 3, 0, 0)), True)
        self.assertIs(is_label((10, 3, 7), (1, 7, 0, 0)), False)
        self.assertIs(is_label((10, 3, 59), (1, 0, 0, 0)), False)
        self.assertIs(is_label((10, 3, 60), (1, 0, 0, 0)), True)


class Values(unittest.TestCase):
    def test_labels_are_tuples_of_whole_numbers(self):
        for numbering in NUMBERINGS:
            for frame in [0, 1, 10 ** 6] + GREAT_FRAMES:
                label = label_of(numbering, frame)
                self.assertIs(type(label), tuple)
                self.assertEqual([type(part) for part in label], [int] * 4)
                self.assertIs(type(frame_of(numbering, label)), int)

    def test_hours_have_no_bound(self):
        for hours in (100, 10 ** 18, 10 ** 20):
            self.assertIs(is_label((25, 0, 1), (hours, 0, 0, 0)), True)
            self.assertEqual(frame_of((25, 0, 1), (hours, 0, 0, 0)), 90000 * hours)
            self.assertEqual(frame_of((30, 2, 10), (hours, 0, 0, 0)), 107892 * hours)

    def test_nothing_handed_in_is_changed_and_answers_stay(self):
        thing = [0, 1, [2], {3: 4}]
        for asked in range(3):
            self.assertIs(is_label((30, 2, 10), thing), False)
            self.assertRaises(NoLabel, frame_of, (30, 2, 10), thing)
            self.assertEqual(thing, [0, 1, [2], {3: 4}])
            self.assertEqual(label_of((30, 2, 10), 1800), (0, 1, 0, 2))
            self.assertEqual(label_of((30, 0, 10), 1800), (0, 1, 0, 0))

    def test_a_whole_number_is_an_int_that_is_no_truth(self):
        for thing in (0, 1, -1, 10 ** 18, -(10 ** 18), 10 ** 5000):
            self.assertIs(is_whole(thing), True)
        for thing in (True, False, None, "1", "", (1,), [1], {}, b"1", object(), Hostile(), int):
            self.assertIs(is_whole(thing), False)


if __name__ == "__main__":
    unittest.main()
