"""The refusals of the interface, "cuetimer/errors.py"."""

import unittest

from cuetimer import errors
from cuetimer.errors import (CueError, NoCue, NoJoin, NoLabel, NoName, NoNumber, NoParting, NoPlace, NoRoom, NoRow,
                             NoTime, NoTiming)

PLAIN = [NoLabel, NoTime, NoPlace, NoParting, NoJoin, NoName, NoNumber, NoRow]
ELEVEN = PLAIN + [NoCue, NoRoom, NoTiming]


class Bases(unittest.TestCase):
    def test_each_refusal_is_a_cue_error_and_a_value_error(self):
        self.assertEqual(len(set(ELEVEN)), 11)
        self.assertTrue(issubclass(CueError, ValueError))
        for kind in ELEVEN:
            with self.subTest(kind=kind.__name__):
                self.assertEqual(kind.__bases__, (CueError,))

    def test_none_stands_under_another_one(self):
        for one in ELEVEN:
            for other in ELEVEN:
                if one is not other:
                    with self.subTest(one=one.__name__, other=other.__name__):
                        self.assertFalse(issubclass(one, other))

    def test_names(self):
        for kind in ELEVEN + [CueError]:
            self.assertIs(getattr(errors, kind.__name__), kind)

    def test_raised_and_taken(self):
        made = [kind("words") for kind in PLAIN] + [kind() for kind in PLAIN]
        made += [NoCue(1), NoRoom(0), NoTiming([("long", 0)])]
        for error in made:
            for base in (type(error), CueError, ValueError):
                with self.assertRaises(base) as caught:
                    raise error
                self.assertIs(caught.exception, error)

    def test_words_can_be_shown(self):
        for error in [NoLabel("no label"), NoCue(3), NoRoom(0), NoTiming([])]:
            self.assertNotEqual(str(error), "")


class Fields(unittest.TestCase):
    def test_row(self):
        for row in (1, 3, 10 ** 18):
            self.assertEqual(NoCue(row).row, row)

    def test_at(self):
        for at in (0, 3, 199):
            self.assertEqual(NoRoom(at).at, at)

    def test_ring(self):
        ring = [("long", 0), ("apart", 0, 1), ("start", 1)]
        self.assertEqual(NoTiming(ring).ring, [("long", 0), ("apart", 0, 1), ("start", 1)])
        self.assertIsInstance(NoTiming(ring).ring, list)
        self.assertEqual(NoTiming([]).ring, [])

    def test_ring_is_the_askers_own(self):
        ring = [("long", 0)]
        error = NoTiming(ring)
        ring.append(("most", 0))
        self.assertEqual(error.ring, [("long", 0)])
        error.ring.clear()
        self.assertEqual(ring, [("long", 0), ("most", 0)])

    def test_each_error_has_its_own_value(self):
        one = NoCue(1)
        other = NoCue(2)
        self.assertEqual((one.row, other.row), (1, 2))


if __name__ == "__main__":
    unittest.main()
