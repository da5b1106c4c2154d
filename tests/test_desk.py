"""The desk: [28], and [2] to [4] as far as they speak of it."""

import copy
import itertools
import random
import unittest

from cuetimer.clocks import Frames, Thousandths
from cuetimer.cues import read_cues, show_cues
from cuetimer.desk import Desk
from cuetimer.errors import (CueError, NoCue, NoJoin, NoName, NoNumber, NoParting, NoPlace, NoRoom, NoRow, NoTime,
                             NoTiming)
from cuetimer.least import least_timing
from cuetimer.parting import parted
from cuetimer.places import moved_cues
from cuetimer.rules import broken, price, rules_of
from cuetimer.timed import timed_both, timed_cues
from tests.odd_things import Hostile, no_texts, wrong_by_a_sign

SETTINGS = {"sign": 60, "least": 1000, "most": 7000, "apart": 80, "shy": 200, "begin": 2, "end": 1}
BOUNDS = {"sign": (0, 10 ** 9), "least": (1, 10 ** 9), "most": (0, 10 ** 9), "apart": (0, 10 ** 9), "shy": (1, 10 ** 9),
          "begin": (0, 99), "end": (0, 99)}

ANNA = "00:00:01.000 00:00:02.500 anna Good morning.\n00:00:02.500 00:00:03.000 anna You too!"
BERT = "00:00:01.100 00:00:02.000 bert Guten Morgen.\n00:00:02.400 00:00:03.900 bert Dir auch!\n00:00:09.000 00:00:10.000 bert So."
LONG = ("00:00:00.000 00:00:05.000 cleo Good morning, my dear friends. How are you today?\n"
        "00:00:05.000 00:00:05.001 cleo a b\n00:00:05.000 00:00:06.000 cleo one")
ROWS = ["clock thousandths", "clock frames 25 0 1", "set sign 60", "cut 00:00:01.000", "uncut 00:00:01.000", "cues new",
        "drop anna", "show anna", "move anna new 00:00:01.000 00:00:02.000", "broken anna", "price anna", "time anna new",
        "both anna bert 100 new newer", "rows long 0 40 2", "part long 0", "join cut 0"]
MOVE_TWO = "move anna new 00:00:01.000 00:00:02.000 00:00:05.000 00:00:05.500"


def cues_of(text):
    return read_cues(Thousandths(), text)


def text_of(cues):
    return show_cues(Thousandths(), cues)


def times_of(cues):
    return [0] + [moment for cue in cues for moment in cue[:2]]


def told_desk():
    """A desk with cues by four names."""
    desk = Desk()
    cut = text_of([(0, 1000, "anna", "One."), (1080, 2080, "anna", "Two."), (3000, 4000, "bert", "Three.")])
    for name, text in [("anna", ANNA), ("bert", BERT), ("long", LONG), ("cut", cut), ("none", "")]:
        desk.say(f"cues {name}\n{text}")
    return desk


def kept_by(desk):
    """All that a desk keeps, as its own values and as its answers on a twin."""
    values = dict(vars(desk))
    clock = values.pop("clock")
    told = [copy.deepcopy(values), type(clock), copy.deepcopy(vars(clock))]
    twin = copy.deepcopy(desk)
    for name in ["anna", "bert", "long", "cut", "none", "new", "newer", "a", "zzzzzzzz"]:
        for row in [f"show {name}", f"broken {name}", f"price {name}"]:
            try:
                told.append(twin.say(row))
            except CueError as refused:
                told.append(type(refused))
    return told


class Said(unittest.TestCase):
    def setUp(self):
        self.desk = told_desk()

    def ok(self, *rows):
        for row in rows:
            self.assertEqual(self.desk.say(row), "ok", row)

    def tell(self, row, told):
        answer = self.desk.say(row)
        self.assertIs(type(answer), str)
        self.assertEqual(answer, told, row)

    def refuse(self, row, error):
        """It is refused with just this, and nothing is changed."""
        before = kept_by(self.desk)
        with self.assertRaises(CueError) as caught:
            self.desk.say(row)
        self.assertIs(type(caught.exception), error, row)
        self.assertEqual(kept_by(self.desk), before, row)
        return caught.exception


class NoRows(Said):
    def test_each_row_is_one(self):
        for row in ROWS + [MOVE_TWO, "cues new\n", "cues new\n" + ANNA]:
            self.setUp()
            self.desk.say(row)

    def test_words_too_few_or_too_many(self):
        for row in ROWS:
            words = row.split(" ")
            for many in range(len(words)):
                self.refuse(" ".join(words[:many]), NoRow)
            for more in (["x"], [""], ["0"], ["new", "new", "new"], ["00:00:01.000"]):
                self.refuse(" ".join(words + more), NoRow)
        for row in ("move anna new", "move anna new 00:00:01.000", MOVE_TWO + " 00:00:09.000", MOVE_TWO + " "):
            self.refuse(row, NoRow)

    def test_blanks_twice_ahead_and_at_the_end(self):
        for row in ROWS:
            self.refuse(" " + row, NoRow)
            self.refuse(row + " ", NoRow)
            if not row.startswith("move"):
                for place in [place for place, sign in enumerate(row) if sign == " "]:
                    self.refuse(row[:place] + " " + row[place:], NoRow)
        self.refuse("move anna new  00:00:01.000 00:00:02.000", NoRow)

    def test_words_that_are_nothing(self):
        self.refuse("show ", NoName)
        self.refuse("cues ", NoName)
        self.refuse("cut ", NoTime)
        self.refuse("set sign ", NoNumber)
        self.refuse("set  60", NoName)
        self.refuse("time anna ", NoName)
        self.refuse("clock frames  0 1", NoNumber)
        self.refuse("move anna new 00:00:01.000 ", NoTime)
        self.refuse("move anna new  ", NoTime)
        self.refuse("move  new 00:00:01.000 00:00:02.000", NoName)

    def test_other_words(self):
        for row in ["", " ", "x", "shows anna", "Show anna", "SHOW anna", "show\tanna", "anna show", "clock", "clock x", "clock ",
                    "clock Thousandths", "clock thousandth", "clock frame 25 0 1", "clock Frames 25 0 1", "clock 25 0 1", "ok",
                    "clock thousandths 25 0 1", "clock frames", "clock 25 frames 0 1", "sign 60", "cuts 00:00:01.000", "help",
                    "none", "\n", "\nshow anna", "cues", "cues\n", "cues\nanna", "cues\n" + ANNA, " cues new", "cues new x",
                    "cues new x\n" + ANNA, "cues new \n" + ANNA, "cues  new\n", "cues\nnew " + ANNA, "Cues new\n" + ANNA]:
            self.refuse(row, NoRow)

    def test_first_words_wrong_by_a_sign(self):
        rows = {row.partition(" ")[0] for row in ROWS}
        for row in ROWS:
            first, blank, rest = row.partition(" ")
            for other in wrong_by_a_sign(first, "xs\n"):
                if other not in rows:
                    self.assertRaises(NoRow, self.desk.say, other + " " + rest)

    def test_what_is_no_text(self):
        for thing in no_texts() + [None, ["show", "anna"], ("show", "anna"), b"show anna", Hostile(), {"show": "anna"}]:
            self.refuse(thing, NoRow)

    def test_a_row_end_in_a_row(self):
        for row, error in [("show anna\n", NoName), ("show\nanna", NoRow), ("show\n anna", NoRow), ("cut 00:00:01.000\n", NoTime),
                           ("set sign 60\n", NoNumber), ("set sign\n 60", NoName), ("clock thousandths\n", NoRow),
                           ("clock frames 25 0 1\n", NoNumber), ("clock frames\n 25 0 1", NoRow), ("time anna new\n", NoName),
                           ("part long 0\n", NoNumber), ("drop anna\n", NoName), ("drop anna\nshow bert", NoRow),
                           ("show anna\ncues new", NoRow), ("rows long 0 40 2\n", NoNumber), ("\ncues new", NoRow),
                           ("price anna\n", NoName), ("broken\nanna x", NoRow), ("both anna bert 100 new newer\n", NoName),
                           ("move anna new 00:00:01.000 00:00:02.000\n", NoTime), ("join cut 0\n", NoNumber)]:
            self.refuse(row, error)


def wrong_numbers():
    return ["", "-1", "+1", "01", "00", "000", "1.", "1.0", "1e1", "0x1", "1_0", "x", "one", "1\n", "\n1", "\t1", "1\t",
            "9" * 19, "1" + "0" * 18, "0" * 18, "0" * 19, "9" * 9000, "-0", "1-", "--1", "1,0", "None", "True"]


class WrongWords(Said):
    def test_numbers(self):
        for row, places in [("clock frames 25 0 1", (2, 3, 4)), ("set sign 60", (2,)), ("set end 60", (2,)),
                            ("both anna bert 100 new newer", (3,)), ("rows long 0 40 2", (2, 3, 4)), ("part long 0", (2,)),
                            ("join cut 0", (2,))]:
            words = row.split(" ")
            for place in places:
                for number in wrong_numbers():
                    self.refuse(" ".join(words[:place] + [number] + words[place + 1:]), NoNumber)

    def bounds(self, row, low, high):
        """A row with {} in the place of a number: answered within the bounds, refused beyond them."""
        for number in (low, high):
            self.setUp()
            self.desk.say(row.format(number))
        self.setUp()
        for number in (low - 1, high + 1, high + 10, 10 ** 17, 10 ** 18 - 1):
            self.refuse(row.format(number), NoNumber)

    def test_bounds(self):
        self.bounds("clock frames {} 0 1", 1, 999)
        self.bounds("clock frames 25 {} 1", 0, 24)
        self.bounds("clock frames 1 {} 1", 0, 0)
        self.bounds("clock frames 999 {} 1", 0, 998)
        self.bounds("clock frames 25 2 {}", 1, 60)
        for key, (low, high) in BOUNDS.items():
            self.bounds("set " + key + " {}", low, high)
        self.bounds("both anna bert {} new newer", 0, 10 ** 9)
        self.bounds("rows long {} 49 2", 0, 2)

    def test_bounds_of_rows(self):
        self.ok("cues one\n00:00:00.000 00:00:01.000 a a")
        for wide in range(0, 103):
            if 1 <= wide <= 100:
                self.tell(f"rows one 0 {wide} 1", "a")
            else:
                self.refuse(f"rows one 0 {wide} 1", NoNumber)
        for most in range(0, 8):
            if 1 <= most <= 5:
                self.tell(f"rows one 0 1 {most}", "a")
            else:
                self.refuse(f"rows one 0 1 {most}", NoNumber)

    def test_places_where_no_cue_stands(self):
        for place in (3, 4, 99, 10 ** 17):
            self.refuse(f"rows long {place} 40 2", NoNumber)
            self.refuse(f"part long {place}", NoNumber)
            self.refuse(f"join long {place}", NoNumber)
        self.refuse("join long 2", NoNumber)
        self.refuse("join cut 1", NoJoin)
        self.refuse("join cut 2", NoNumber)
        for row in ("rows none 0 40 2", "part none 0", "join none 0"):
            self.refuse(row, NoNumber)
        self.ok("cues one\n00:00:00.000 00:00:01.000 a a b")
        self.refuse("join one 0", NoNumber)
        self.refuse("part one 1", NoNumber)
        self.ok("part one 0")

    def test_names(self):
        for name in ["", "A", "Anna", "anna1", "an na"[:2] + "-", "abcdefghi", "anna\n", "\nanna", "1", "0", "a.b", "a_b", "~",
                     "anna\t", "aa%"]:
            for row in ["cues {}", "cues {}x", "time anna {}", "both anna bert 100 {} new", "both anna bert 100 new {}",
                        "move anna {} 00:00:01.000 00:00:02.000"]:
                if not (row == "cues {}x" and name == "") and "\n" not in name:
                    self.refuse(row.format(name), NoName)
            for row in ["drop {}", "show {}", "broken {}", "price {}", "time {} new", "both {} bert 100 new newer",
                        "both anna {} 100 new newer", "rows {} 0 40 2", "part {} 0", "join {} 0",
                        "move {} new 00:00:01.000 00:00:02.000"]:
                self.refuse(row.format(name), NoName)

    def test_names_by_which_no_cues_stand(self):
        for name in ["new", "ann", "annaa", "a", "zzzzzzzz", "ok", "none1"]:
            for row in ["drop {}", "show {}", "broken {}", "price {}", "time {} new", "both {} bert 100 new newer",
                        "both anna {} 100 new newer", "rows {} 0 40 2", "part {} 0", "join {} 0",
                        "move {} new 00:00:01.000 00:00:02.000"]:
                self.refuse(row.format(name), NoName)

    def test_new_names(self):
        for name in ["a", "zzzzzzzz", "anna", "ok", "none", "cues", "abcdefgh"]:
            self.ok(f"cues {name}", f"cues {name}\n{ANNA}", f"time anna {name}", f"both anna bert 9999 {name} {name}")

    def test_keys(self):
        for key in ["", "Sign", "signs", "x", "within", "SIGN", "begin\n", "first", "0"]:
            self.refuse(f"set {key} 5", NoName)
            self.refuse(f"set {key} x", NoName)

    def test_times(self):
        for word in ["", "0", "1000", "00:00:01", "00:00:01.00", "00:00:01.0000", "00:00:60.000", "00:60:00.000", "0:00:01.000",
                     "000:00:01.000", "-00:00:01.000", "00:00:01:00", "00:00:01;02", "00:00:01.000\n", "x", "00:00:01,000",
                     "1" + "0" * 20 + ":00:00.000"]:
            self.refuse(f"cut {word}", NoTime)
            self.refuse(f"uncut {word}", NoTime)
            self.refuse(f"move anna new {word} 00:00:02.000", NoTime)
            self.refuse(f"move anna new 00:00:01.000 {word}", NoTime)
            self.refuse(f"{MOVE_TWO} {word} 00:00:09.000", NoTime)
            self.refuse(f"{MOVE_TWO} 00:00:09.000 {word}", NoTime)

    def test_times_are_read_by_the_clock(self):
        for clock, right, wrong in [("thousandths", "00:01:00.000", ["00:01:00:00", "00:01:00;02"]),
                                    ("frames 30 0 1", "00:01:00:00", ["00:01:00.000", "00:01:00;02", "00:00:00:30"]),
                                    ("frames 30 2 10", "00:01:00;02", ["00:01:00.000", "00:01:00:02", "00:01:00;00"]),
                                    ("frames 999 0 1", "00:00:00:998", ["00:00:00:98", "00:00:00:0998"])]:
            self.ok(f"clock {clock}", f"cut {right}", f"uncut {right}", f"move anna new {right} {right}")
            for word in wrong:
                self.refuse(f"cut {word}", NoTime)
                self.refuse(f"uncut {word}", NoTime)
                self.refuse(f"move anna new {right} {word}", NoTime)

    def test_two_wrong_things_the_first_from_the_left(self):
        for row, error in [("move x Y 1 2", NoName), ("move anna Y 1 2", NoName), ("move anna new 1 2", NoTime),
                           ("move anna new 00:00:01.000 2", NoTime), ("set x y", NoName), ("time x Y", NoName),
                           ("both x y z Q R", NoName), ("both anna y z Q R", NoName), ("both anna bert z Q R", NoNumber),
                           ("both anna bert 1000000001 Q R", NoNumber), ("both anna bert 0 Q R", NoName),
                           ("both anna bert 0 new R", NoName), ("rows x 9 0 0", NoName), ("rows long 9 0 0", NoNumber),
                           ("part x y", NoName), ("join x y", NoName), ("clock frames 0 x 99", NoNumber),
                           ("clock frames 25 25 99", NoNumber), ("cues X\nx", NoName), ("clock x 0 99 0", NoRow),
                           ("move x Y 1", NoRow), ("set x y z", NoRow), ("both x y z Q", NoRow), ("rows x 9 0", NoRow),
                           ("cues X y\nx", NoRow), ("time x", NoRow), ("drop X y", NoRow)]:
            self.refuse(row, error)

    def test_words_ahead_of_what_the_stages_refuse(self):
        self.ok("set most 0")
        self.refuse("time anna new", NoTiming)
        self.refuse("time anna New", NoName)
        self.refuse("both anna bert 100 new newer", NoTiming)
        self.refuse("both anna bert 100 new Newer", NoName)
        self.refuse("both anna bert x new newer", NoNumber)
        self.refuse("move anna new 00:00:01.000 00:00:02.000 00:00:01.000 00:00:03.000", NoPlace)
        self.refuse("move anna New 00:00:01.000 00:00:02.000 00:00:01.000 00:00:03.000", NoName)
        self.refuse("move anna new 00:00:01.000 00:00:02.000 00:00:01.000 x", NoTime)
        self.refuse("rows long 0 1 5", NoParting)
        self.refuse("rows long 0 1 6", NoNumber)


class Clocks(Said):
    def test_moments_stay_the_numbers_that_they_are(self):
        self.ok("cut 00:00:02.600")
        answers = [self.desk.say(row) for row in ("broken anna", "price anna")]
        for clock, numbering in [("frames 30 2 10", (30, 2, 10)), ("frames 25 0 1", (25, 0, 1)), ("frames 1 0 60", (1, 0, 60)),
                                 ("frames 999 998 2", (999, 998, 2)), ("thousandths", None)]:
            self.ok("clock " + clock)
            there = Frames(numbering) if numbering else Thousandths()
            self.tell("show anna", show_cues(there, cues_of(ANNA)))
            self.assertEqual([self.desk.say(row) for row in ("broken anna", "price anna")], answers)
        self.tell("show anna", ANNA)
        self.ok("uncut 00:00:02.600")
        self.tell("broken anna", "apart 0 1, long 1")

    def test_known_texts(self):
        self.ok("clock frames 30 2 10")
        self.ok("cues new\n00:00:59;29 00:01:00;02 anna Hello.")
        self.tell("show new", "00:00:59;29 00:01:00;02 anna Hello.")
        self.ok("clock thousandths")
        self.tell("show new", "00:00:01.799 00:00:01.800 anna Hello.")
        self.ok("clock frames 25 0 1")
        self.tell("show new", "00:01:11:24 00:01:12:00 anna Hello.")
        self.assertEqual(self.refuse("cues newer\n00:01:11;24 00:01:12;00 anna Hello.", NoCue).row, 1)

    def test_cuts_and_places_by_frames(self):
        self.ok("clock frames 25 0 1", "cut 00:01:44:00", "clock thousandths")
        self.tell("broken anna", "apart 0 1, long 1, behind 1 0")
        self.ok("clock frames 25 0 1", "move anna new 00:00:00:00 00:00:01:00", "clock thousandths")
        self.tell("show new", text_of(moved_cues([(0, 25)], cues_of(ANNA))))


class Settings(Said):
    def test_the_first_ones(self):
        for cues in (ANNA, BERT, LONG):
            rules = rules_of(SETTINGS, cues_of(cues), [])
            whys = [" ".join(str(part) for part in rules[number][4]) for number in broken(rules, times_of(cues_of(cues)))]
            self.ok("cues new\n" + cues)
            self.tell("broken new", ", ".join(whys) or "none")
            self.check_price("new", SETTINGS, cues_of(cues), [])

    def test_the_first_ones_at_their_edges(self):
        for text, told in [("00:00:00.000 00:00:07.000 a a", "none"), ("00:00:00.000 00:00:07.001 a a", "most 0"),
                           ("00:00:00.000 00:00:01.000 a a", "none"), ("00:00:00.000 00:00:00.999 a a", "long 0"),
                           ("00:00:00.000 00:00:01.020 a " + "x" * 17, "none"),
                           ("00:00:00.000 00:00:01.019 a " + "x" * 17, "long 0"),
                           ("00:00:00.000 00:00:01.000 a a\n00:00:01.080 00:00:03.000 a a", "none"),
                           ("00:00:00.000 00:00:01.000 a a\n00:00:01.079 00:00:03.000 a a", "apart 0 1")]:
            self.ok("cues new\n" + text)
            self.tell("broken new", told)
        self.ok("cues new\n00:00:01.000 00:00:03.000 a a")
        for cut, told in [("00:00:01.000", "none"), ("00:00:01.001", "behind 0 0"), ("00:00:01.199", "behind 0 0"),
                          ("00:00:01.200", "none"), ("00:00:02.800", "none"), ("00:00:02.801", "ahead 0 0"),
                          ("00:00:02.999", "ahead 0 0"), ("00:00:03.000", "none"), ("00:00:00.999", "none")]:
            self.ok("cut " + cut)
            self.tell("broken new", told)
            self.ok("uncut " + cut)
        self.ok("cues new\n00:00:01.000 00:00:01.500 a a")
        self.tell("price new", "500")
        self.ok("cut 00:00:01.500")
        self.tell("price new", "1000")

    def check_price(self, name, settings, cues, cuts):
        rules = rules_of(settings, cues, cuts)
        told = least_timing(2 * len(cues), rules)
        if told[0] == "ring":
            self.refuse(f"price {name}", NoTiming)
        else:
            self.tell(f"price {name}", str(price(rules, told[1])))

    def test_each_one_is_set(self):
        for key, (low, high) in BOUNDS.items():
            for number in (low, 7, 90, high):
                self.setUp()
                self.ok(f"set {key} {number}")
                settings = dict(SETTINGS, **{key: number})
                for name, text in [("anna", ANNA), ("bert", BERT), ("long", LONG)]:
                    self.check_price(name, settings, cues_of(text), [])
                    rules = rules_of(settings, cues_of(text), [])
                    whys = [" ".join(map(str, rules[number][4])) for number in broken(rules, times_of(cues_of(text)))]
                    self.tell(f"broken {name}", ", ".join(whys) or "none")

    def test_set_again(self):
        self.ok("set least 1", "set sign 0", "set apart 0")
        self.tell("broken anna", "none")
        self.ok("set least 501")
        self.tell("broken anna", "long 1")
        self.ok("set least 500")
        self.tell("broken anna", "none")


class Cuts(Said):
    def test_cuts_rise_and_stand_once(self):
        self.ok("set least 1", "set sign 0", "cues probe\n00:00:00.000 00:00:01.000 p p")
        for moment in ("00:00:00.900", "00:00:00.100", "00:00:00.950", "00:00:00.900", "00:00:00.100"):
            self.ok("cut " + moment)
        self.tell("broken probe", "behind 0 0, ahead 0 1, ahead 0 2")
        self.ok("uncut 00:00:00.900")
        self.tell("broken probe", "behind 0 0, ahead 0 1")
        self.ok("uncut 00:00:00.900", "uncut 00:00:00.500")
        self.tell("broken probe", "behind 0 0, ahead 0 1")
        self.ok("uncut 00:00:00.100")
        self.tell("broken probe", "ahead 0 0")
        self.ok("uncut 00:00:00.950")
        self.tell("broken probe", "none")
        self.ok("uncut 00:00:00.950")
        self.tell("broken probe", "none")

    def test_each_order(self):
        moments = ["00:00:00.100", "00:00:00.900", "00:00:00.950", "00:00:00.960"]
        for order in itertools.permutations(moments):
            self.setUp()
            self.ok("set least 1", "set sign 0", "cues probe\n00:00:00.000 00:00:01.000 p p")
            self.ok(*["cut " + moment for moment in order])
            self.tell("broken probe", "behind 0 0, ahead 0 1, ahead 0 2, ahead 0 3")

    def test_cuts_are_minded(self):
        self.ok("cut 00:00:02.600", "time anna new")
        self.tell("show new", text_of(timed_cues(SETTINGS, cues_of(ANNA), [2600])))
        self.tell("price anna", "800")
        self.tell("show new", "00:00:01.000 00:00:02.500 anna Good morning.\n00:00:02.600 00:00:03.600 anna You too!")


class Cues(Said):
    def test_no_text(self):
        for row in ("cues new", "cues new\n", "cues anna", "cues anna\n"):
            self.ok(row)
            self.tell("show " + row.split()[1], "")
            self.tell("broken " + row.split()[1], "none")
            self.tell("price " + row.split()[1], "0")

    def test_a_text(self):
        for text in (ANNA, BERT, LONG):
            self.ok("cues new\n" + text)
            self.tell("show new", text)
            self.ok("cues anna\n" + text)
            self.tell("show anna", text)
        self.tell("show bert", BERT)

    def test_wrong_texts(self):
        rows = BERT.split("\n")
        for place in range(3):
            for wrong in ["", "x", rows[place] + " ", rows[place].replace(".", ":", 1), rows[place].replace("bert", "Bert"),
                          rows[place].split(" ")[0], " " + rows[place], "00:00:05.000 00:00:05.000 bert So."]:
                text = "\n".join(rows[:place] + [wrong] + rows[place + 1:])
                self.assertEqual(self.refuse("cues new\n" + text, NoCue).row, place + 1)
                self.assertEqual(self.refuse("cues anna\n" + text, NoCue).row, place + 1)
        self.assertEqual(self.refuse("cues new\n" + BERT + "\n", NoCue).row, 4)
        self.assertEqual(self.refuse("cues new\n\n" + BERT, NoCue).row, 1)
        self.assertEqual(self.refuse("cues new\n\n", NoCue).row, 1)
        self.assertEqual(self.refuse("cues new\n" + "\n".join(rows[::-1]), NoCue).row, 2)
        self.assertEqual(self.refuse("cues new\nshow anna", NoCue).row, 1)
        self.assertEqual(self.refuse("cues new\n ", NoCue).row, 1)

    def test_drop(self):
        self.ok("drop anna")
        self.refuse("show anna", NoName)
        self.refuse("drop anna", NoName)
        self.tell("show bert", BERT)
        self.ok("cues anna\n" + BERT)
        self.tell("show anna", BERT)
        self.ok("drop none")
        self.refuse("show none", NoName)

    def test_show_is_the_text_that_was_told(self):
        for seed in range(20):
            chance = random.Random(seed)
            begins = sorted(chance.randint(0, 10 ** 12) for _ in range(seed))
            text = text_of([(begin, begin + chance.randint(1, 10 ** 6), "ab"[seed % 2], "w~ !w") for begin in begins])
            self.ok("cues new\n" + text)
            self.tell("show new", text)


class Move(Said):
    def test_onto_another_name(self):
        self.ok("move anna new 00:00:01.000 00:00:02.000")
        self.tell("show new", text_of(moved_cues([(1000, 2000)], cues_of(ANNA))))
        self.tell("show anna", ANNA)
        self.ok("move anna bert 00:00:01.000 00:00:02.000")
        self.tell("show bert", text_of(moved_cues([(1000, 2000)], cues_of(ANNA))))

    def test_onto_the_same_name(self):
        self.ok("move anna anna 00:00:01.000 00:00:02.000")
        self.tell("show anna", text_of(moved_cues([(1000, 2000)], cues_of(ANNA))))
        self.ok("move anna anna 00:00:02.000 00:00:01.000")
        self.tell("show anna", ANNA)

    def test_several_places(self):
        self.ok(MOVE_TWO)
        self.tell("show new", text_of(moved_cues([(1000, 2000), (5000, 5500)], cues_of(ANNA))))
        self.ok(MOVE_TWO + " 00:00:06.000 00:00:09.000")
        self.tell("show new", text_of(moved_cues([(1000, 2000), (5000, 5500), (6000, 9000)], cues_of(ANNA))))

    def test_no_cues(self):
        self.ok("move none new 00:00:01.000 00:00:02.000")
        self.tell("show new", "")
        self.refuse("move none new 00:00:01.000 00:00:02.000 00:00:01.000 00:00:03.000", NoPlace)

    def test_no_places(self):
        for places in ["00:00:01.000 00:00:02.000 00:00:01.000 00:00:03.000", "00:00:02.000 00:00:02.000 00:00:01.000 00:00:03.000",
                       "00:00:01.000 00:00:02.000 00:00:03.000 00:00:02.000"]:
            self.refuse("move anna new " + places, NoPlace)

    def test_no_room(self):
        self.assertEqual(self.refuse("move anna new 00:00:01.001 00:00:00.000", NoRoom).at, 0)
        self.ok("move anna new 00:00:01.000 00:00:00.000")
        self.assertEqual(self.refuse("move anna new 00:00:02.500 00:00:02.500 00:00:04.500 00:00:02.501", NoRoom).at, 1)


class Time(Said):
    def test_time(self):
        told = text_of(timed_cues(SETTINGS, cues_of(ANNA), []))
        self.ok("time anna new")
        self.tell("show new", told)
        self.tell("show anna", ANNA)
        self.tell("broken new", "none")
        self.tell("price new", "0")
        self.ok("time anna anna")
        self.tell("show anna", told)
        self.ok("time none new")
        self.tell("show new", "")

    def test_price(self):
        self.tell("price none", "0")
        self.tell("price cut", "0")
        self.tell("price anna", "580")
        self.ok("set begin 99", "set end 99")
        self.tell("price anna", str(99 * 580))
        self.ok("set begin 0", "set end 0")
        self.tell("price anna", "0")

    def test_a_great_price(self):
        self.ok("cues new\n00:00:00.000 99999999999999:00:00.000 a a", "set most 1000", "set begin 99", "set end 98")
        self.tell("price new", str(98 * (99999999999999 * 3600000 - 1000)))

    def test_no_timing(self):
        self.ok("set most 779", "set least 500", "set apart 0")
        ring = self.refuse("price anna", NoTiming).ring
        self.assertEqual(sorted(ring), [("long", 0), ("most", 0)])
        self.assertEqual(sorted(self.refuse("time anna new", NoTiming).ring), [("long", 0), ("most", 0)])
        self.assertEqual(sorted(self.refuse("time anna anna", NoTiming).ring), [("long", 0), ("most", 0)])
        self.refuse("both anna bert 100 new newer", NoTiming)
        self.ok("set most 780")
        self.ok("time anna new")

    def test_both(self):
        for within in (0, 50, 1000, 10 ** 9):
            self.setUp()
            told = timed_both(SETTINGS, cues_of(ANNA), cues_of(BERT), [(0, 0), (1, 1)], within, [])
            rules = len(told[0]) + len(told[1])
            self.assertEqual(rules, 5)
            self.ok(f"both anna bert {within} new newer")
            self.tell("show new", text_of(told[0]))
            self.tell("show newer", text_of(told[1]))
            self.tell("show anna", ANNA)
            self.tell("show bert", BERT)
            self.ok(f"both anna bert {within} bert anna")
            self.tell("show bert", text_of(told[0]))
            self.tell("show anna", text_of(told[1]))

    def test_both_the_other_way_round(self):
        told = timed_both(SETTINGS, cues_of(BERT), cues_of(ANNA), [(0, 0), (1, 1)], 10, [])
        self.ok("both bert anna 10 new newer")
        self.tell("show new", text_of(told[0]))
        self.tell("show newer", text_of(told[1]))

    def test_both_onto_one_name(self):
        told = timed_both(SETTINGS, cues_of(ANNA), cues_of(BERT), [(0, 0), (1, 1)], 100, [])
        self.ok("both anna bert 100 new new")
        self.tell("show new", text_of(told[1]))
        self.ok("both anna bert 100 anna anna")
        self.tell("show anna", text_of(told[1]))

    def test_both_of_one_name(self):
        self.ok("both anna anna 0 new newer")
        told = timed_both(SETTINGS, cues_of(ANNA), cues_of(ANNA), [(0, 0), (1, 1)], 0, [])
        self.tell("show new", text_of(told[0]))
        self.assertEqual(self.desk.say("show new"), self.desk.say("show newer"))

    def test_both_with_none(self):
        self.ok("both anna none 0 new newer")
        self.tell("show new", text_of(timed_cues(SETTINGS, cues_of(ANNA), [])))
        self.tell("show newer", "")
        self.ok("both none none 0 new newer", "both none anna 0 newer new")
        self.tell("show new", text_of(timed_cues(SETTINGS, cues_of(ANNA), [])))

    def test_both_with_cuts(self):
        self.ok("cut 00:00:02.600", "cut 00:00:01.200")
        told = timed_both(SETTINGS, cues_of(ANNA), cues_of(BERT), [(0, 0), (1, 1)], 2000, [1200, 2600])
        self.ok("both anna bert 2000 new newer")
        self.tell("show new", text_of(told[0]))
        self.tell("show newer", text_of(told[1]))


class Rows(Said):
    def test_rows(self):
        words = "Good morning, my dear friends. How are you today?"
        for wide in range(1, 101, 3):
            for most in range(1, 6):
                try:
                    told = "\n".join(parted(words, wide, most))
                except NoParting:
                    self.refuse(f"rows long 0 {wide} {most}", NoParting)
                    continue
                self.tell(f"rows long 0 {wide} {most}", told)
        self.tell("rows long 0 30 2", "Good morning, my dear friends.\nHow are you today?")
        self.tell("rows long 1 1 2", "a\nb")
        self.tell("rows long 1 3 2", "a b")
        self.tell("rows long 2 3 1", "one")
        self.refuse("rows long 2 2 5", NoParting)


class PartAndJoin(Said):
    def test_part(self):
        self.ok("part long 0")
        rows = LONG.split("\n")
        self.tell("show long", "\n".join(["00:00:00.000 00:00:03.125 cleo Good morning, my dear friends.",
                                          "00:00:03.125 00:00:05.000 cleo How are you today?"] + rows[1:]))
        self.ok("join long 0")
        self.tell("show long", LONG)

    def test_part_in_the_middle_and_last(self):
        self.ok("cues new\n00:00:00.000 00:00:01.000 a a b\n00:00:01.000 00:00:02.000 a c d\n00:00:02.000 00:00:03.000 a e f")
        self.ok("part new 1")
        self.tell("show new", "00:00:00.000 00:00:01.000 a a b\n00:00:01.000 00:00:01.500 a c\n00:00:01.500 00:00:02.000 a d\n"
                  "00:00:02.000 00:00:03.000 a e f")
        self.ok("part new 3", "part new 0")
        self.tell("show new", "\n".join(f"00:00:0{k // 2}.{k % 2 * 5}00 00:00:0{(k + 1) // 2}.{(k + 1) % 2 * 5}00 a {'abcdef'[k]}"
                                        for k in range(6)))
        self.ok("join new 4", "join new 2", "join new 0")
        self.tell("show new",
                  "00:00:00.000 00:00:01.000 a a b\n00:00:01.000 00:00:02.000 a c d\n00:00:02.000 00:00:03.000 a e f")
        self.ok("join new 0", "join new 0")
        self.tell("show new", "00:00:00.000 00:00:03.000 a a b c d e f")

    def test_no_part(self):
        self.refuse("part long 1", NoParting)
        self.refuse("part long 2", NoParting)

    def test_the_next_cue_begins_around_the_second_one(self):
        for begin, error in [(0, NoParting), (400, NoParting), (499, NoParting), (500, None), (501, None), (1000, None)]:
            self.ok(f"cues new\n00:00:00.000 00:00:01.000 a a b\n00:00:0{begin // 1000}.{begin % 1000:03} 00:00:09.000 b c")
            if error:
                self.refuse("part new 0", error)
            else:
                self.ok("part new 0")

    def test_no_join(self):
        self.refuse("join cut 1", NoJoin)
        self.refuse("join long 1", NoJoin)
        self.ok("join cut 0")
        self.tell("show cut", "00:00:00.000 00:00:02.080 anna One. Two.\n00:00:03.000 00:00:04.000 bert Three.")
        self.ok("cues new\n00:00:00.000 00:00:01.000 a a\n00:00:00.999 00:00:02.000 a b")
        self.refuse("join new 0", NoJoin)


class Broken(Said):
    def test_known_ones(self):
        self.tell("broken anna", "apart 0 1, long 1")
        self.tell("broken none", "none")
        self.tell("broken cut", "none")
        self.ok("cues new\n00:00:00.000 00:00:08.000 a a\n00:00:00.000 00:00:01.000 a b", "cut 00:00:07.900")
        self.tell("broken new", "most 0, apart 0 1, ahead 0 0")

    def test_it_changes_nothing(self):
        before = kept_by(self.desk)
        for row in ("broken anna", "price anna", "show anna", "rows long 0 40 2"):
            self.assertEqual(self.desk.say(row), self.desk.say(row))
        self.assertEqual(kept_by(self.desk), before)


class Desks(unittest.TestCase):
    def test_two_desks_beside_one_another(self):
        one, other = Desk(), Desk()
        for row in ("cues a\n" + ANNA, "set least 1", "set sign 0", "cut 00:00:00.500", "clock frames 25 0 1"):
            self.assertEqual(one.say(row), "ok")
        self.assertRaises(NoName, other.say, "show a")
        other.say("cues a\n" + ANNA)
        self.assertEqual(other.say("show a"), ANNA)
        self.assertEqual(other.say("broken a"), "apart 0 1, long 1")
        self.assertEqual(one.say("broken a"), "apart 0 1")
        other.say("drop a")
        self.assertEqual(one.say("broken a"), "apart 0 1")
        self.assertEqual(Desk().say("cues a\n" + ANNA), "ok")
        self.assertRaises(NoTime, Desk().say, "cut 00:00:00:12")

    def test_at_first(self):
        desk = Desk()
        for name in ("a", "anna", "none", "ok"):
            self.assertRaises(NoName, desk.say, "show " + name)
        desk.say("cues a\n00:00:00.000 00:00:01.000 a a")
        self.assertEqual(desk.say("broken a"), "none")

    def test_a_hundred_cues(self):
        desk = Desk()
        cues = [(900 * place, 900 * place + 800, "ab"[place % 2], "Hello there. " * (place % 3) + "So.") for place in range(100)]
        desk.say("cues a\n" + text_of(cues))
        desk.say("time a b")
        self.assertEqual(desk.say("broken b"), "none")
        self.assertEqual(desk.say("price b"), "0")
        self.assertGreater(int(desk.say("price a")), 0)


if __name__ == "__main__":
    unittest.main()
