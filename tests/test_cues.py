"""Cues and their texts: [11], [12], what [4] says of them, and [2] and [3] as far as they speak of them."""

import copy
import unittest

from cuetimer.clocks import Frames, Thousandths
from cuetimer.cues import are_cues, is_cue, read_cues, show_cues
from cuetimer.errors import CueError, NoCue
from cuetimer.kinds import are_words, is_name
from tests.odd_things import Hostile, in_each_place, no_texts, wrong_by_a_sign

ALL_SIGNS = "".join(chr(number) for number in range(ord("!"), ord("~") + 1) if chr(number) != "%")
LONG_WORDS = " ".join(ALL_SIGNS[place:place + 30] for place in range(0, len(ALL_SIGNS), 30))

NAMES = ["a", "z", "anna", "abcdefgh", "zzzzzzzz"]
NO_NAMES = ["", "abcdefghi", "Anna", "ANNA", "annA", "a1", "1", "0", "a b", " a", "a ", " ", "a\n", "\n", "a-b", "a_b",
            "`", "{", "@", "a.", "a%", "\u00e4", "\u0430"]

WORDS = ["a", "!", "~", "Hello there.", "a b c d e", "x" * 30, "x" * 30 + " " + "y" * 30, "\"'\\{}", "- 7 + 1 = 8",
         " ".join(ALL_SIGNS), LONG_WORDS, "00:00:00.000 a b", " ".join(["abcdefghi"] * 40)]
NO_WORDS = ["", " ", " a", "a ", "a  b", "  ", "a b ", " a b", "a b  c", "a\nb", "\na", "a\n", "\n", "a\tb", "a\rb", "a\r",
            "a\x00", "\x00", "\x1f", "\x7f", "a\x7f", "%", "a%", "%a", "a % b", "100%", "x" * 31, "x" * 31 + " a",
            "a " + "x" * 31, "a " + "x" * 31 + " b", "x" * 60, "a\x0bb", "a\x0cb", "a\x1cb"]

NO_MOMENTS = [-1, -(10 ** 18), True, False, "0", "", "00:00:00.000", None, (), [], (0,), [0], {}, b"0", object(), Hostile(),
              int]

CUE = (1000, 2000, "anna", "Hello there.")

CUES = [
    [],
    [(0, 1, "a", "a")],
    [(1000, 2500, "anna", "Good morning."), (1000, 1001, "bert", "You too!"), (1200, 2000, "anna", "a b c"),
     (10 ** 15, 10 ** 18, "zzzzzzzz", LONG_WORDS)],
    [(7 * number, 7 * number + 3, "abcdefgh", f"words number {number}") for number in range(200)],
    [(5, 6, "a", "x")] * 7,
    [(number, number + 1, "hand", words) for number, words in enumerate(WORDS)],
]

CLOCKS = [Thousandths(), Frames((25, 0, 1)), Frames((30, 2, 10)), Frames((1, 0, 60)), Frames((101, 7, 3)),
          Frames((999, 998, 60))]


class Parts(unittest.TestCase):
    def test_names(self):
        for name in NAMES:
            self.assertIs(is_name(name), True, name)
        for thing in NO_NAMES + no_texts():
            self.assertIs(is_name(thing), False)

    def test_words(self):
        for words in WORDS:
            self.assertIs(are_words(words), True, words)
        for thing in NO_WORDS + no_texts():
            self.assertIs(are_words(thing), False)

    def test_each_sign(self):
        for number in range(128):
            sign = chr(number)
            self.assertIs(are_words(sign), sign in ALL_SIGNS, number)
            self.assertIs(are_words("a" + sign + "b"), sign in ALL_SIGNS + " ", number)
            self.assertIs(is_name(sign), "a" <= sign <= "z", number)


class WhatIsACue(unittest.TestCase):
    def refuse(self, thing):
        self.assertIs(is_cue(thing), False)
        self.assertIs(are_cues([thing]), False)
        self.assertIs(are_cues([CUE, thing]), False)
        self.assertIs(are_cues([thing, CUE]), False)
        self.assertIs(is_cue(CUE), True)
        self.assertIs(are_cues([CUE]), True)

    def test_right_ones(self):
        for begin, end in [(0, 1), (0, 10 ** 18), (1, 2), (10 ** 18 - 1, 10 ** 18), (1000, 2500)]:
            for name in NAMES:
                for words in WORDS:
                    self.assertIs(is_cue((begin, end, name, words)), True)
                    self.assertIs(are_cues([(begin, end, name, words)]), True)

    def test_ends_at_or_ahead_of_the_begin(self):
        for begin, end in [(0, 0), (1, 0), (1, 1), (2, 1), (10 ** 18, 10 ** 18), (10 ** 18, 10 ** 18 - 1), (10 ** 18, 0)]:
            self.refuse((begin, end, "anna", "a"))

    def test_what_is_no_moment(self):
        for thing in NO_MOMENTS:
            self.refuse((thing, 2000, "anna", "a"))
            self.refuse((0, thing, "anna", "a"))
            self.refuse((thing, thing, "anna", "a"))
        self.refuse((-2, -1, "anna", "a"))
        self.refuse((False, True, "anna", "a"))

    def test_what_is_no_hand(self):
        for thing in NO_NAMES + no_texts():
            self.refuse((0, 1, thing, "a"))

    def test_what_are_no_words(self):
        for thing in NO_WORDS + no_texts() + [["a", "b"], ("a", "b")]:
            self.refuse((0, 1, "anna", thing))

    def test_a_thing_less_or_more(self):
        for thing in [CUE[:number] for number in range(4)] + [CUE[number:] for number in range(1, 5)]:
            self.refuse(thing)
        for more in (None, 0, "a", "anna", CUE):
            for place in range(5):
                self.refuse(CUE[:place] + (more,) + CUE[place:])
        self.refuse((CUE,))
        self.refuse(CUE * 50)

    def test_things_in_another_order(self):
        for thing in [(1000, 2000, "Hello there.", "anna"), ("anna", "a", 1000, 2000), (1000, "anna", 2000, "a")]:
            self.refuse(thing)

    def test_what_is_no_tuple(self):
        for thing in no_texts() + [list(CUE), "", "a", "abcd", {0: 0, 1: 1, 2: "a", 3: "a"}, dict.fromkeys(CUE), [CUE]]:
            self.refuse(thing)

    def test_other_things_in_each_place(self):
        """A number may be right in the place of a moment, so here it is only asked that there is an answer."""
        for odd in no_texts():
            for thing in in_each_place(CUE, odd):
                self.assertIsInstance(is_cue(thing), bool)
                self.assertIsInstance(are_cues([thing, CUE]), bool)


class WhatAreCues(unittest.TestCase):
    def test_right_ones(self):
        for cues in CUES:
            self.assertIs(are_cues(cues), True)

    def test_begins_that_fall(self):
        rising = [(number, 1000, "anna", "a") for number in range(100, 200, 10)]
        self.assertIs(are_cues(rising), True)
        for place in range(1, 10):
            fallen = (rising[place - 1][0] - 1, 1000, "anna", "a")
            self.assertIs(are_cues(rising[:place] + [fallen] + rising[place:]), False)
            self.assertIs(are_cues(rising[:place] + [rising[place - 1]] + rising[place:]), True)
            swapped = rising[:place - 1] + [rising[place], rising[place - 1]] + rising[place + 1:]
            self.assertIs(are_cues(swapped), False)

    def test_ends_may_fall(self):
        self.assertIs(are_cues([(0, 100, "a", "a"), (1, 50, "a", "a"), (2, 3, "a", "a")]), True)

    def test_what_is_no_list(self):
        for thing in no_texts() + ["", "a", (CUE,), (CUE, CUE), CUE, {0: CUE}, {CUE: True}, {CUE}, iter([CUE]), [[CUE]],
                                   [list(CUE)], [()], [""], [CUE, None], [None, CUE], [CUE, Hostile()]]:
            self.assertIs(are_cues(thing), False)
            self.assertIs(are_cues([CUE]), True)


class ShownAndRead(unittest.TestCase):
    def test_known_texts(self):
        cues = [(1000, 2500, "anna", "Good morning."), (2600, 3600000, "bert", "a b")]
        for clock, text in [
            (Thousandths(), "00:00:01.000 00:00:02.500 anna Good morning.\n00:00:02.600 01:00:00.000 bert a b"),
            (Frames((25, 0, 1)), "00:00:40:00 00:01:40:00 anna Good morning.\n00:01:44:00 40:00:00:00 bert a b"),
            (Frames((30, 2, 10)), "00:00:33;10 00:01:23;12 anna Good morning.\n00:01:26;22 33:22:00;04 bert a b"),
        ]:
            self.assertEqual(show_cues(clock, cues), text)
            self.assertEqual(read_cues(clock, text), cues)

    def test_no_cues(self):
        for clock in CLOCKS:
            self.assertEqual(show_cues(clock, []), "")
            self.assertEqual(read_cues(clock, ""), [])

    def test_there_and_back(self):
        for clock in CLOCKS:
            for cues in CUES:
                text = show_cues(clock, cues)
                self.assertIs(type(text), str)
                told = read_cues(clock, text)
                self.assertEqual(told, cues)
                self.assertIs(type(told), list)
                self.assertEqual([type(cue) for cue in told], [tuple] * len(cues))
                self.assertIs(are_cues(told), True)
                self.assertEqual(show_cues(clock, told), text)
                self.assertEqual(text.count("\n"), max(len(cues) - 1, 0))

    def test_nothing_handed_in_is_changed_and_lists_are_the_askers_own(self):
        for clock in CLOCKS:
            for cues in CUES:
                before = copy.deepcopy(cues)
                text = show_cues(clock, cues)
                told = read_cues(clock, text)
                self.assertIsNot(told, cues)
                again = read_cues(clock, text)
                self.assertIsNot(told, again)
                told.append("more")
                told.reverse()
                self.assertEqual(again, before)
                self.assertEqual(read_cues(clock, text), before)
                self.assertEqual(show_cues(clock, cues), text)
                self.assertEqual(cues, before)

    def test_cues_changed_later(self):
        cues = [CUE]
        text = show_cues(Thousandths(), cues)
        cues.clear()
        self.assertEqual(text, "00:00:01.000 00:00:02.000 anna Hello there.")
        self.assertEqual(show_cues(Thousandths(), cues), "")


def row(clock, cue):
    return f"{clock.show(cue[0])} {clock.show(cue[1])} {cue[2]} {cue[3]}"


def wrong_rows(clock, cue, above):
    """The row of a cue, wrong in each way; above is the cue of the row above it, or None."""
    begin, end = clock.show(cue[0]), clock.show(cue[1])
    hand, words = cue[2:]
    rows = ["", " ", "   ", "    ", begin, f"{begin} {end}", f"{begin} {end} {hand}", f"{begin} {end} {hand} ",
            f"{end} {hand} {words}", f"{begin} {hand} {words}", f"{begin} {end} {hand.upper()} {words}",
            f"{hand} {words} {begin} {end}", f"{end} {begin} {hand} {words}", f"{begin} {begin} {hand} {words}"]
    rows += [f"{odd} {end} {hand} {words}" for odd in (begin[:-1], begin + "0", begin[1:], "x", "-1", str(cue[0]))]
    rows += [f"{begin} {odd} {hand} {words}" for odd in (end[:-1], end + "0", end[1:], "x", "None", str(cue[1]))]
    # A blank within the hand only parts it, and what is behind it is of the words.
    rows += [f"{begin} {end} {odd} {words}" for odd in NO_NAMES if "\n" not in odd and odd != "a b"]
    rows += [f"{begin} {end} {hand} {odd}" for odd in NO_WORDS if "\n" not in odd]
    rows += [f" {begin} {end} {hand} {words}", f"{begin}  {end} {hand} {words}", f"{begin} {end}  {hand} {words}",
             f"{begin} {end} {hand}  {words}", f"{begin} {end} {hand} {words} ", f"{begin}\t{end} {hand} {words}",
             f"{begin}{end} {hand} {words}", f"{begin} {end}{hand} {words}", f"{begin} {end} {hand} {words}\r"]
    if above:
        rows += [f"{clock.show(less)} {end} {hand} {words}" for less in (0, above[0] - 1)]
    return rows


class WhatIsNoText(unittest.TestCase):
    def setUp(self):
        self.cues = [(1000 + 500 * number, 2000 + 500 * number, "anna", f"words {number}") for number in range(5)]

    def refuse(self, clock, text, number):
        with self.assertRaises(NoCue) as caught:
            read_cues(clock, text)
        self.assertIsInstance(caught.exception, CueError)
        self.assertEqual(caught.exception.row, number, text if isinstance(text, str) else "")
        self.assertIs(type(caught.exception.row), int)
        self.assertEqual(read_cues(clock, row(clock, CUE)), [CUE])

    def test_a_row_that_is_wrong_at_each_place(self):
        for clock in CLOCKS:
            right = [row(clock, cue) for cue in self.cues]
            for place, cue in enumerate(self.cues):
                above = self.cues[place - 1] if place else None
                for wrong in wrong_rows(clock, cue, above):
                    # No cues are written as no signs, so alone such a row is no wrong one.
                    if wrong or place:
                        self.refuse(clock, "\n".join(right[:place] + [wrong]), place + 1)
                    for behind in [right[place + 1:] + [right[4]], ["", "x", right[0]]]:
                        self.refuse(clock, "\n".join(right[:place] + [wrong] + behind), place + 1)

    def test_the_first_of_several_kinds(self):
        clock = Thousandths()
        right = [row(clock, cue) for cue in self.cues]
        self.refuse(clock, "\n".join([right[1], right[0], "x"]), 2)
        self.refuse(clock, "\n".join([right[1], "x", right[0]]), 2)
        self.refuse(clock, "\n".join([right[0], right[2], right[1], right[3]]), 3)
        self.refuse(clock, "\n".join(["x", right[1], right[0]]), 1)
        self.refuse(clock, "\n".join([right[4], right[3], right[2]]), 2)

    def test_a_begin_is_held_against_the_row_above_alone(self):
        clock = Thousandths()
        rows = [row(clock, (begin, 100, "a", "x")) for begin in (5, 5, 9, 9, 9, 8, 7)]
        self.refuse(clock, "\n".join(rows), 6)
        self.assertEqual(len(read_cues(clock, "\n".join(rows[:5]))), 5)

    def test_row_ends_too_many(self):
        for clock in CLOCKS:
            for many in (1, 2, 3, 5):
                text = show_cues(clock, self.cues[:many])
                self.refuse(clock, text + "\n", many + 1)
                self.refuse(clock, text + "\n\n", many + 1)
                if many > 1:
                    self.refuse(clock, text + "\n" + text, many + 1)
                self.refuse(clock, "\n" + text, 1)
                self.refuse(clock, text + " ", many)
            self.refuse(clock, "\n", 1)
            self.refuse(clock, "\n\n", 1)
            self.refuse(clock, " ", 1)

    def test_other_row_ends(self):
        clock = Thousandths()
        right = [row(clock, cue) for cue in self.cues]
        for end in ("\r\n", "\r", "\x0b", "\x0c", "\x1c", "\n\n", " \n", "\n "):
            number = 2 if end in ("\n\n", "\n ") else 1
            self.refuse(clock, end.join(right), number)

    def test_texts_of_other_clocks(self):
        text = show_cues(Thousandths(), self.cues)
        for clock in CLOCKS[1:]:
            self.refuse(clock, text, 1)
            self.refuse(Thousandths(), show_cues(clock, self.cues), 1)

    def test_labels_left_out(self):
        clock = Frames((30, 2, 10))
        self.refuse(clock, "00:00:59;00 00:01:00;02 a x\n00:01:00;01 00:01:00;02 a x", 2)
        self.refuse(clock, "00:00:59;00 00:01:00;00 a x", 1)
        self.assertEqual(read_cues(clock, "00:00:59;00 00:01:00;02 a x"), [(1770, 1800, "a", "x")])

    def test_one_sign_wrong(self):
        """Each text is the only one of its cues, so what is read is shown as just that text again."""
        for clock in CLOCKS[:3]:
            text = show_cues(clock, self.cues[:2])
            refused = 0
            for other in wrong_by_a_sign(text, " \n%:;.019aZ~"):
                try:
                    told = read_cues(clock, other)
                except NoCue as error:
                    refused += 1
                    self.assertIn(error.row, range(1, other.count("\n") + 2))
                else:
                    self.assertIs(are_cues(told), True)
                    self.assertEqual(show_cues(clock, told), other)
            self.assertGreater(refused, 500)

    def test_what_is_no_text(self):
        for clock in CLOCKS:
            for thing in no_texts() + [[CUE], CUE, [row(clock, CUE)], (row(clock, CUE), row(clock, CUE)), []]:
                self.refuse(clock, thing, 1)

    def test_things_refused_stay(self):
        thing = [row(Thousandths(), CUE), ["x"]]
        self.refuse(Thousandths(), thing, 1)
        self.assertEqual(thing, ["00:00:01.000 00:00:02.000 anna Hello there.", ["x"]])


if __name__ == "__main__":
    unittest.main()
