"""Rates, moments and their texts: [7] to [9], what [4] says of them, and [2] and [3] as far as they speak of them."""

import math
import re
import unittest
from fractions import Fraction

from cuetimer.errors import CueError, NoTime
from cuetimer.frames import frame_of, is_label, label_of
from cuetimer.kinds import are_figures, nearest
from cuetimer.moments import (begin_of, frame_near, frame_on, moment_of, read_frame, read_moment, show_frame,
                              show_moment)
from tests.odd_things import no_texts, wrong_by_a_sign

PERS = [1, 2, 7, 1000, 1001, 999983, 10 ** 6]
RATES = [(many, per) for per in PERS
         for many in [1, 2, 3, 16, 24, 25, 60, 400, 500, 999, 24000, 30000, 60000, 999 * per, 1000 * per - 1]
         if many < 1000 * per]
FRAMES = list(range(70)) + [999, 1000, 1001, 86400, 10 ** 6, 10 ** 9 + 7, 2 ** 53 + 1, 123456789012345678, 10 ** 18 - 1,
                            10 ** 18]
HALF = Fraction(1, 2)

SIGNS = " \t\n\r.:;,+-_/0159aEx%~"
NUMBERINGS = [(1, 0, 1), (2, 0, 60), (2, 1, 2), (10, 0, 1), (10, 3, 7), (11, 0, 1), (11, 10, 60), (25, 0, 1), (30, 2, 10),
              (100, 0, 1), (100, 7, 3), (101, 0, 1), (101, 1, 1), (101, 4, 10), (999, 0, 1), (999, 998, 60)]


def half_up(number):
    return math.floor(number + HALF)


def begin(rate, frame):
    many, per = rate
    return Fraction(frame * per, many)


class Rates(unittest.TestCase):
    def test_the_rates_that_must_be_there(self):
        for per in (1, 1001, 10 ** 6):
            for many in (24, 25, 60, 999 * per, 1000 * per - 1):
                self.assertIn((many, per), RATES)
        for many in (24000, 30000):
            self.assertIn((many, 1001), RATES)
            self.assertIn((many, 10 ** 6), RATES)

    def test_begins_are_fractions_in_lowest_terms(self):
        for rate in RATES:
            for frame in FRAMES:
                told = begin_of(rate, frame)
                self.assertIs(type(told), tuple)
                self.assertEqual([type(part) for part in told], [int, int])
                right = begin(rate, frame)
                self.assertEqual(told, (right.numerator, right.denominator), (rate, frame))

    def test_known_begins(self):
        for rate, frame, told in [((24, 1), 0, (0, 1)), ((24, 1), 1, (1, 24)), ((24, 1), 24, (1, 1)),
                                  ((24, 1), 36, (3, 2)), ((30000, 1001), 1, (1001, 30000)),
                                  ((30000, 1001), 10, (1001, 3000)), ((24000, 1001), 24000, (1001, 1)),
                                  ((1, 10 ** 6), 3, (3 * 10 ** 6, 1)), ((999, 1000), 0, (0, 1)),
                                  ((25, 1), 10 ** 18, (4 * 10 ** 16, 1))]:
            self.assertEqual(begin_of(rate, frame), told)

    def test_the_moment_of_a_frame_is_the_nearest_to_its_begin(self):
        for rate in RATES:
            for frame in FRAMES:
                told = moment_of(rate, frame)
                self.assertIs(type(told), int)
                self.assertTrue(-HALF < told - 1000 * begin(rate, frame) <= HALF, (rate, frame))

    def test_begins_between_two_moments_go_up(self):
        for rate, frame, moment in [((16, 1), 1, 63), ((16, 1), 3, 188), ((400, 1), 1, 3), ((400, 1), 3, 8),
                                    ((2000, 3), 1, 2), ((2000, 3), 3, 5), ((2000, 1001), 1, 501),
                                    ((16, 1), 16 * 10 ** 16 + 1, 10 ** 19 + 63)]:
            self.assertEqual((1000 * begin(rate, frame)).denominator, 2)
            self.assertEqual(moment_of(rate, frame), moment)

    def test_known_moments(self):
        for rate, frame, moment in [((24, 1), 0, 0), ((24, 1), 1, 42), ((24, 1), 2, 83), ((25, 1), 1, 40),
                                    ((30000, 1001), 1, 33), ((30000, 1001), 2, 67), ((24000, 1001), 1, 42),
                                    ((1, 10 ** 6), 1, 10 ** 9), ((25, 1), 10 ** 18, 4 * 10 ** 19)]:
            self.assertEqual(moment_of(rate, frame), moment)

    def moments_around_begins(self, rate):
        moments = [0, 1, 2, 10 ** 18 - 1, 10 ** 18]
        for frame in FRAMES[:70] + [10 ** 9 + 7, math.floor(10 ** 15 / begin(rate, 1))]:
            there = math.floor(1000 * begin(rate, frame))
            middle = math.floor(500 * (begin(rate, frame) + begin(rate, frame + 1)))
            moments += [there - 1, there, there + 1, there + 2, middle - 1, middle, middle + 1]
        return [moment for moment in sorted(set(moments)) if moment >= 0]

    def test_the_frame_near_a_moment(self):
        for rate in RATES:
            for moment in self.moments_around_begins(rate):
                told = frame_near(rate, moment)
                self.assertIs(type(told), int)
                in_frames = Fraction(moment * rate[0], 1000 * rate[1])
                self.assertTrue(-HALF < told - in_frames <= HALF, (rate, moment))

    def test_moments_in_the_middle_of_two_begins_are_near_the_later_frame(self):
        for rate, moment, frame in [((25, 1), 20, 1), ((25, 1), 60, 2), ((500, 1), 1, 1), ((500, 1), 3, 2),
                                    ((1, 1), 500, 1), ((1, 10 ** 6), 5 * 10 ** 8, 1),
                                    ((25, 1), 10 ** 18 - 20, 25 * 10 ** 15)]:
            self.assertEqual(Fraction(moment * rate[0], 1000 * rate[1]) % 1, HALF)
            self.assertEqual(frame_near(rate, moment), frame)
            self.assertEqual(frame_near(rate, moment - 1), frame - 1)

    def test_the_frame_on_at_a_moment(self):
        for rate in RATES:
            for moment in self.moments_around_begins(rate):
                told = frame_on(rate, moment)
                self.assertIs(type(told), int)
                self.assertTrue(begin(rate, told) <= Fraction(moment, 1000) < begin(rate, told + 1), (rate, moment))

    def test_known_frames_on(self):
        for rate, moment, frame in [((25, 1), 0, 0), ((25, 1), 39, 0), ((25, 1), 40, 1), ((25, 1), 41, 1),
                                    ((24, 1), 41, 0), ((24, 1), 42, 1), ((24, 1), 83, 1), ((24, 1), 84, 2),
                                    ((30000, 1001), 33, 0), ((30000, 1001), 34, 1), ((1, 10 ** 6), 10 ** 9 - 1, 0),
                                    ((1, 10 ** 6), 10 ** 9, 1), ((25, 1), 10 ** 18, 25 * 10 ** 15)]:
            self.assertEqual(frame_on(rate, moment), frame)

    def test_there_and_back(self):
        for rate in RATES:
            for frame in FRAMES + list(range(500, 700)):
                self.assertEqual(frame_near(rate, moment_of(rate, frame)), frame, rate)


class Nearest(unittest.TestCase):
    def test_halves_up(self):
        for top in range(-60, 61):
            for bottom in range(1, 13):
                self.assertEqual(nearest(top, bottom), half_up(Fraction(top, bottom)))
        self.assertEqual([nearest(top, 2) for top in (-3, -1, 1, 3)], [-1, 0, 1, 2])


class Figures(unittest.TestCase):
    def test_figures(self):
        for text in ("0", "9", "0123456789", "00", "7" * 30):
            self.assertIs(are_figures(text), True)
        for text in ("", " ", "1 ", " 1", "-1", "+1", "1_0", "a", "1a", "1\n", "0x1", "1.", "/", ":", "\u0663", "\u00b2"):
            self.assertIs(are_figures(text), False)


def written(parts, sign, figures):
    return "%02d:%02d:%02d%s%0*d" % (parts[:3] + (sign, figures, parts[3]))


def moment_text(moment):
    hours, rest = divmod(moment, 3600000)
    minutes, rest = divmod(rest, 60000)
    return written((hours, minutes) + divmod(rest, 1000), ".", 3)


def figures_of(numbering):
    base = numbering[0]
    return 2 if base <= 100 else 3


def sign_of(numbering):
    return ";" if numbering[1] > 0 else ":"


def moments_to_show():
    moments = [0, 1, 9, 10, 99, 100, 999, 10 ** 18 - 1, 10 ** 18, 123456789012345678]
    for length in (1000, 10 * 1000, 60 * 1000, 600 * 1000, 3600 * 1000, 36000 * 1000, 360000 * 1000, 3600000 * 1000,
                   3600 * 10 ** 12, 3600 * 10 ** 14):
        for times in (1, 2, 9, 59, 60, 61):
            moments += [length * times - 1, length * times, length * times + 1]
    return sorted(set(moments))


class TimeTexts(unittest.TestCase):
    def refuse_moment(self, text):
        with self.assertRaises(NoTime) as caught:
            read_moment(text)
        self.assertIsInstance(caught.exception, CueError)
        self.assertEqual(read_moment("00:00:01.002"), 1002)

    def refuse_frame(self, numbering, text):
        with self.assertRaises(NoTime) as caught:
            read_frame(numbering, text)
        self.assertIsInstance(caught.exception, CueError)
        self.assertEqual(read_frame(numbering, show_frame(numbering, 1)), 1)


class MomentTexts(TimeTexts):
    def test_known_texts(self):
        for moment, text in [(0, "00:00:00.000"), (1, "00:00:00.001"), (999, "00:00:00.999"), (1000, "00:00:01.000"),
                             (59999, "00:00:59.999"), (60000, "00:01:00.000"), (3599999, "00:59:59.999"),
                             (3600000, "01:00:00.000"), (359999999, "99:59:59.999"), (360000000, "100:00:00.000"),
                             (3599999999, "999:59:59.999"), (3600000000, "1000:00:00.000"),
                             (10 ** 18 - 1, "277777777777:46:39.999"), (10 ** 18, "277777777777:46:40.000")]:
            self.assertEqual(show_moment(moment), text)
            self.assertEqual(read_moment(text), moment)

    def test_shown_and_read_again(self):
        for moment in moments_to_show():
            text = show_moment(moment)
            self.assertIs(type(text), str)
            self.assertEqual(text, moment_text(moment))
            self.assertEqual(read_moment(text), moment)
            self.assertIs(type(read_moment(text)), int)

    def test_hours_of_many_figures(self):
        self.assertEqual(read_moment("9" * 20 + ":59:59.999"), 10 ** 20 * 3600000 - 1)
        self.assertEqual(read_moment("1" + "0" * 19 + ":00:00.000"), 10 ** 19 * 3600000)
        self.assertEqual(show_moment(10 ** 20 * 3600000 - 1), "9" * 20 + ":59:59.999")
        for hours in ["9" * 21, "1" + "0" * 20, "0" * 20, "0" * 21, "1" * 5000]:
            self.refuse_moment(hours + ":00:00.000")

    def test_hours_with_a_0_ahead(self):
        self.assertEqual(read_moment("01:00:00.000"), 3600000)
        self.assertEqual(read_moment("100:00:00.000"), 360000000)
        for hours in ["000", "001", "012", "099", "0100", "0" + "1" * 19]:
            self.refuse_moment(hours + ":00:00.000")

    def test_too_few_or_too_many_figures(self):
        for text in ["0:00:00.000", ":00:00.000", "00:0:00.000", "00:00:0.000", "00:00:00.00", "00:00:00.0", "00:00:00.",
                     "00:00:00", "00:000:00.000", "00:00:000.000", "00:00:00.0000", "00:00.000", "00.000", "1", "000",
                     "00::00.000", "00:00:.000", "", ".", ":", "::.", "::", ":::", "00:00:00:00.000", "000000000"]:
            self.refuse_moment(text)

    def test_sixty_and_more(self):
        for number in (60, 61, 99):
            self.refuse_moment(f"00:{number}:00.000")
            self.refuse_moment(f"00:00:{number}.000")
            self.refuse_moment(f"123:{number}:{number}.999")
        self.assertEqual(read_moment("60:59:59.999"), 61 * 3600000 - 1)

    def test_one_sign_wrong(self):
        right = re.compile(r"([0-9]{2}|[1-9][0-9]{2,19}):([0-5][0-9]):([0-5][0-9])\.([0-9]{3})", re.ASCII)
        refused = 0
        for text in ["00:00:00.000", "01:59:09.050", "12:34:56.789", "100:00:59.999", "98765432109876543210:01:02.003"]:
            self.assertTrue(right.fullmatch(text))
            for other in wrong_by_a_sign(text, SIGNS):
                found = right.fullmatch(other)
                if found:
                    hours, minutes, seconds, rest = [int(part) for part in found.groups()]
                    self.assertEqual(read_moment(other), ((hours * 60 + minutes) * 60 + seconds) * 1000 + rest)
                else:
                    refused += 1
                    self.refuse_moment(other)
        self.assertGreater(refused, 2000)

    def test_other_signs_for_the_signs_between(self):
        for text in ["00:00:00:000", "00:00:00;000", "00:00:00,000", "00.00:00.000", "00:00.00.000", "00;00;00.000",
                     "00:00:00 000", "00-00-00.000", "00:00:00.0_0", "00:00:00.+01", "+1:00:00.000", "-1:00:00.000",
                     "-01:00:00.000", "1_0:00:00.000", " 1:00:00.000", "00: 1:00.000", "00:00:00.000\n", "00:00:00.1e1",
                     "0x:00:00.000", "00:00:00.000 ", " 00:00:00.000", "00:00:00.00\n", "\n00:00:00.000", "aa:bb:cc.ddd"]:
            self.refuse_moment(text)

    def test_figures_beyond_ascii(self):
        for figure in "\u0663\u00b2\uff11":
            for place in (0, 1, 3, 4, 6, 7, 9, 10, 11):
                text = "00:00:00.000"
                self.refuse_moment(text[:place] + figure + text[place + 1:])

    def test_what_is_no_text(self):
        for thing in no_texts():
            self.refuse_moment(thing)


def frames_to_show(numbering):
    base = numbering[0]
    frames = [0, 1, 9, 10, 99, 100, base - 1, base, 10 ** 18 - 1, 10 ** 18]
    for length in (base, 60 * base, 3600 * base, 360000 * base, 3600000 * base, 3600 * base * 10 ** 11):
        frames += [length - 1, length, length + 1]
    return sorted(set(frames))


class LabelTexts(TimeTexts):
    def test_known_texts(self):
        for numbering, frame, text in [
            ((25, 0, 1), 0, "00:00:00:00"), ((25, 0, 1), 24, "00:00:00:24"), ((25, 0, 1), 25, "00:00:01:00"),
            ((25, 0, 1), 90000 * 100, "100:00:00:00"), ((30, 2, 10), 0, "00:00:00;00"), ((30, 2, 10), 1799, "00:00:59;29"),
            ((30, 2, 10), 1800, "00:01:00;02"), ((30, 2, 10), 17982, "00:10:00;00"), ((30, 0, 10), 1800, "00:01:00:00"),
            ((1, 0, 1), 61, "00:01:01:00"), ((2, 0, 1), 1, "00:00:00:01"), ((2, 1, 1), 1, "00:00:00;01"),
            ((10, 0, 1), 9, "00:00:00:09"), ((11, 0, 1), 10, "00:00:00:10"), ((100, 0, 1), 99, "00:00:00:99"),
            ((101, 0, 1), 99, "00:00:00:099"), ((101, 0, 1), 100, "00:00:00:100"), ((101, 4, 10), 1, "00:00:00;001"),
            ((999, 0, 1), 998, "00:00:00:998"), ((999, 998, 60), 59940, "00:01:00;998"),
            ((1, 0, 1), 10 ** 18, "277777777777777:46:40:00"),
        ]:
            with self.subTest(numbering=numbering, frame=frame):
                self.assertEqual(show_frame(numbering, frame), text)
                self.assertEqual(read_frame(numbering, text), frame)

    def test_shown_and_read_again(self):
        for numbering in NUMBERINGS:
            for frame in frames_to_show(numbering):
                text = show_frame(numbering, frame)
                self.assertIs(type(text), str)
                self.assertEqual(text, written(label_of(numbering, frame), sign_of(numbering), figures_of(numbering)))
                self.assertEqual(read_frame(numbering, text), frame)
                self.assertIs(type(read_frame(numbering, text)), int)

    def test_one_sign_wrong(self):
        refused = 0
        for numbering in NUMBERINGS:
            figures = figures_of(numbering)
            right = re.compile(r"([0-9]{2}|[1-9][0-9]{2,19}):([0-5][0-9]):([0-5][0-9])%s([0-9]{%d})"
                               % (sign_of(numbering), figures), re.ASCII)
            for frame in (0, numbering[0] * 60, numbering[0] * 3600 * 123 + 17):
                text = show_frame(numbering, frame)
                for other in wrong_by_a_sign(text, SIGNS):
                    found = right.fullmatch(other)
                    label = tuple(int(part) for part in found.groups()) if found else None
                    if found and is_label(numbering, label):
                        self.assertEqual(read_frame(numbering, other), frame_of(numbering, label))
                    else:
                        refused += 1
                        self.refuse_frame(numbering, other)
        self.assertGreater(refused, 10000)

    def test_the_other_sign_ahead_of_the_frames(self):
        for numbering in NUMBERINGS:
            text = show_frame(numbering, 1)
            sign = sign_of(numbering)
            place = text.rindex(sign)
            for other in ":;.,":
                if other != sign:
                    self.refuse_frame(numbering, text[:place] + other + text[place + 1:])

    def test_too_few_or_too_many_figures(self):
        for numbering in NUMBERINGS:
            sign = sign_of(numbering)
            for number in range(6):
                text = "00:00:01" + sign + "0" * number
                if number == figures_of(numbering):
                    self.assertEqual(read_frame(numbering, text), numbering[0])
                else:
                    self.refuse_frame(numbering, text)

    def test_frames_of_the_base_and_above(self):
        for numbering in NUMBERINGS:
            base = numbering[0]
            most = 10 ** figures_of(numbering)
            last = written((0, 0, 1, base - 1), sign_of(numbering), figures_of(numbering))
            self.assertEqual(read_frame(numbering, last), 2 * base - 1)
            for frames in [base, base + 1, most - 1]:
                if base <= frames < most:
                    text = written((0, 0, 1, frames), sign_of(numbering), figures_of(numbering))
                    self.refuse_frame(numbering, text)

    def test_sixty_and_more(self):
        for numbering in NUMBERINGS:
            for number in (60, 61, 99):
                for parts in [(0, number, 1, 0), (0, 0, number, 0), (123, number, number, 0)]:
                    self.refuse_frame(numbering, written(parts, sign_of(numbering), figures_of(numbering)))

    def test_labels_left_out(self):
        for numbering, text in [((30, 2, 10), "00:01:00;00"), ((30, 2, 10), "00:01:00;01"), ((30, 2, 10), "123:59:00;00"),
                                ((2, 1, 2), "00:01:00;00"), ((101, 4, 10), "00:09:00;003"), ((10, 3, 7), "01:00:00;02"),
                                ((999, 998, 60), "07:59:00;997")]:
            self.refuse_frame(numbering, text)
        self.assertEqual(read_frame((30, 2, 10), "00:01:00;02"), 1800)
        self.assertEqual(read_frame((30, 2, 10), "00:10:00;00"), 17982)
        self.assertEqual(read_frame((30, 0, 10), "00:01:00:00"), 1800)
        self.assertEqual(read_frame((101, 1, 1), "00:01:00;000"), 6060)

    def test_hours(self):
        for numbering in NUMBERINGS:
            behind = written((0, 0, 1, 0), sign_of(numbering), figures_of(numbering))[2:]
            for hours in ["9" * 20, "1" + "0" * 19, "100", "00"]:
                self.assertEqual(read_frame(numbering, hours + behind), frame_of(numbering, (int(hours), 0, 1, 0)))
            for hours in ["9" * 21, "1" + "0" * 20, "000", "012", "0" * 20, "1", "", "1" * 5000]:
                self.refuse_frame(numbering, hours + behind)

    def test_what_is_no_text(self):
        for numbering in NUMBERINGS:
            for thing in no_texts() + ["", (0, 0, 0, 0)]:
                self.refuse_frame(numbering, thing)

    def test_a_text_of_a_moment_is_none_of_a_label(self):
        for numbering in NUMBERINGS:
            self.refuse_frame(numbering, "00:00:01.000")


class Values(unittest.TestCase):
    def test_nothing_handed_in_is_changed_and_answers_stay(self):
        thing = ["00:00:00.000", [0]]
        for asked in range(3):
            self.assertRaises(NoTime, read_moment, thing)
            self.assertRaises(NoTime, read_frame, (30, 2, 10), thing)
            self.assertEqual(thing, ["00:00:00.000", [0]])
            self.assertEqual(show_frame((30, 2, 10), 1800), "00:01:00;02")
            self.assertEqual(show_frame((30, 0, 10), 1800), "00:01:00:00")
            self.assertEqual(begin_of((30000, 1001), 10), (1001, 3000))


if __name__ == "__main__":
    unittest.main()
