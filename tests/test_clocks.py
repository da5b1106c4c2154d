"""Clocks: [10]."""

import unittest

from cuetimer.clocks import Clock, Frames, Thousandths
from cuetimer.errors import CueError, NoTime
from cuetimer.moments import show_frame, show_moment
from tests.odd_things import no_texts

NUMBERINGS = [(25, 0, 1), (30, 2, 10), (30, 0, 10), (1, 0, 60), (101, 0, 1), (999, 998, 60)]
MOMENTS = [0, 1, 24, 25, 999, 1000, 1799, 1800, 17982, 59940, 3600000, 360000000, 10 ** 18 - 1, 10 ** 18]


def clocks():
    return [Thousandths()] + [Frames(numbering) for numbering in NUMBERINGS]


class Clocks(unittest.TestCase):
    def test_each_is_a_clock(self):
        for clock in clocks() + [Clock()]:
            self.assertIsInstance(clock, Clock)
        self.assertEqual(Thousandths.__bases__, (Clock,))
        self.assertEqual(Frames.__bases__, (Clock,))

    def test_known_texts(self):
        for clock, moment, text in [(Thousandths(), 1800, "00:00:01.800"), (Frames((30, 2, 10)), 1800, "00:01:00;02"),
                                    (Frames((30, 0, 10)), 1800, "00:01:00:00"), (Frames((25, 0, 1)), 1800, "00:01:12:00"),
                                    (Frames((101, 0, 1)), 100, "00:00:00:100")]:
            self.assertEqual(clock.show(moment), text)
            self.assertEqual(clock.read(text), moment)

    def test_shown_and_read_again(self):
        for clock in clocks():
            for moment in MOMENTS:
                text = clock.show(moment)
                self.assertIs(type(text), str)
                self.assertEqual(clock.read(text), moment)
                self.assertIs(type(clock.read(text)), int)

    def test_they_show_as_moments_and_frames_are_shown(self):
        for moment in MOMENTS:
            self.assertEqual(Thousandths().show(moment), show_moment(moment))
            for numbering in NUMBERINGS:
                self.assertEqual(Frames(numbering).show(moment), show_frame(numbering, moment))

    def test_clocks_beside_one_another(self):
        made = clocks()
        texts = [[clock.show(moment) for clock in made] for moment in MOMENTS]
        for moment, shown in zip(MOMENTS, texts):
            self.assertEqual([clock.show(moment) for clock in reversed(made)], shown[::-1])
            self.assertEqual([clock.read(text) for clock, text in zip(made, shown)], [moment] * len(made))
        one, other = Frames((30, 2, 10)), Frames((25, 0, 1))
        self.assertEqual((one.show(1800), other.show(1800), one.show(1800)),
                         ("00:01:00;02", "00:01:12:00", "00:01:00;02"))

    def test_what_they_refuse(self):
        for clock in clocks():
            for thing in no_texts() + ["", " ", "00:00:00", "00:00:60.000", "00:60:00:00", clock.show(1) + " ",
                                       " " + clock.show(1), clock.show(1) + "\n", clock.show(1)[1:], clock.show(1)[:-1]]:
                with self.assertRaises(NoTime) as caught:
                    clock.read(thing)
                self.assertIsInstance(caught.exception, CueError)
                self.assertEqual(clock.read(clock.show(1)), 1)

    def test_texts_of_other_clocks_are_refused(self):
        for clock, text in [(Thousandths(), "00:00:00:00"), (Thousandths(), "00:00:00;00"),
                            (Frames((25, 0, 1)), "00:00:00.000"), (Frames((25, 0, 1)), "00:00:00;00"),
                            (Frames((25, 0, 1)), "00:00:00:25"), (Frames((30, 2, 10)), "00:00:00:00"),
                            (Frames((30, 2, 10)), "00:01:00;00"), (Frames((101, 0, 1)), "00:00:00:00")]:
            self.assertRaises(NoTime, clock.read, text)


if __name__ == "__main__":
    unittest.main()
