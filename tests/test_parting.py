"""Rows parted: [24] and [25], and [2] to [4] as far as they speak of them."""

import copy
import itertools
import random
import unittest
from unittest import mock

from cuetimer.errors import CueError, NoParting
from cuetimer.parting import lets_parting, parted, parting_price, parting_table
from tests.odd_things import Hostile, no_texts
from tests.rules_by_the_words import is_number

SOME_WORDS = [
    "a",
    "Hello.",
    "a b",
    "one, two",
    "Yes! No? Perhaps; or, so: it.is",
    "aaaa bb cc ddddd",
    "Good morning, my dear friends. How are you today?",
    "a. b! c? d, e; f: g",
    "a" * 30 + " b",
    "b " + "a" * 30 + " c",
    "., .! !. ?; ;? :. . ,",
    "one two three four five six seven eight",
    "x. xxxc xxx; x; x? xa",
]


def break_cost(row):
    return {".": 0, "!": 0, "?": 0, ",": 50, ";": 50, ":": 50}.get(row[-1], 200)


def cost(rows, wide):
    """[24]: what rows cost."""
    return sum((wide - len(row)) ** 2 for row in rows) + sum(break_cost(row) for row in rows[:-1])


def all_partings(words):
    """Every way to part the words, however wide the rows are."""
    parts = words.split(" ")
    for breaks in itertools.product((False, True), repeat=len(parts) - 1):
        rows = [parts[0]]
        for broken_here, part in zip(breaks, parts[1:]):
            if broken_here:
                rows.append(part)
            else:
                rows[-1] += " " + part
        yield rows


def partings(words, wide, most):
    return [rows for rows in all_partings(words) if len(rows) <= most and all(len(row) <= wide for row in rows)]


def table_by_a_search(words, wide, most):
    """[25]: each place by a search over all partings of the first words."""
    parts = words.split(" ")
    table = [[None] * (len(parts) + 1) for k in range(most + 1)]
    table[0][0] = 0
    for j in range(1, len(parts) + 1):
        for rows in all_partings(" ".join(parts[:j])):
            if len(rows) <= most and all(len(row) <= wide for row in rows):
                price = cost(rows, wide) + (break_cost(rows[-1]) if j < len(parts) else 0)
                if table[len(rows)][j] is None or price < table[len(rows)][j]:
                    table[len(rows)][j] = price
    return table


def some_words(seed):
    chance = random.Random(seed)
    return " ".join("x" * chance.choice([0, 1, 2, 3, 7]) + chance.choice("abc.!?,;:~") for _ in range(chance.randint(1, 7)))


def cases():
    for words in SOME_WORDS:
        for wide in (1, 2, 3, 5, 8, 13, 16, 29, 30, 31, 100):
            for most in (1, 2, 3, 5):
                yield words, wide, most
    for seed in range(120):
        yield some_words(seed), 1 + seed % 13, 1 + seed % 5


class Prices(unittest.TestCase):
    def test_known_ones(self):
        for rows, wide, told in [(["a"], 1, 0), (["a"], 100, 99 * 99), (["abc", "d"], 4, 1 + 200 + 9), (["abc.", "d"], 4, 9),
                                 (["abc!", "d"], 4, 9), (["abc?", "d"], 4, 9), (["abc,", "d"], 4, 59), (["abc;", "d"], 4, 59),
                                 (["abc:", "d"], 4, 59), (["a b", "c, d.", "e!"], 5, 4 + 200 + 0 + 0 + 9),
                                 (["a."], 2, 0), (["a,"], 2, 0), (["a", "b", "c"], 1, 400), (["a.b", "c"], 3, 204)]:
            self.assertEqual(parting_price(rows, wide), told)
            self.assertIs(type(parting_price(rows, wide)), int)

    def test_each_last_sign(self):
        for number in range(ord("!"), ord("~") + 1):
            sign = chr(number)
            told = 0 if sign in ".!?" else 50 if sign in ",;:" else 200
            self.assertEqual(parting_price(["a" + sign, "a" + sign], 3), 2 + told)
            self.assertEqual(parting_price([sign, sign], 3), 8 + told)
            self.assertEqual(parting_price([sign + "a", "a" + sign], 3), 202)

    def test_all_partings(self):
        for words in SOME_WORDS:
            for rows in all_partings(words):
                for wide in (1, 30, 100):
                    self.assertEqual(parting_price(rows, wide), cost(rows, wide))


class Tables(unittest.TestCase):
    def test_against_a_search(self):
        for words, wide, most in cases():
            self.assertEqual(parting_table(words, wide, most), table_by_a_search(words, wide, most), (words, wide, most))

    def test_a_known_one(self):
        self.assertEqual(parting_table("ab, c d", 4, 2), [
            [0, None, None, None],
            [None, 51, None, None],
            [None, None, 260, 52],
        ])
        self.assertEqual(parting_table("a", 1, 1), [[0, None], [None, 0]])
        self.assertEqual(parting_table("ab", 1, 3), [[0, None], [None, None], [None, None], [None, None]])

    def test_kinds(self):
        for words, wide, most in cases():
            table = parting_table(words, wide, most)
            self.assertIs(type(table), list)
            self.assertEqual([type(prices) for prices in table], [list] * (most + 1))
            self.assertEqual([len(prices) for prices in table], [len(words.split(" ")) + 1] * (most + 1))
            self.assertEqual({type(price) for prices in table for price in prices} - {int, type(None)}, set())

    def test_many_words(self):
        words = "a " * 199 + "a"
        table = parting_table(words, 100, 5)
        self.assertEqual([prices[-1] for prices in table], [None, None, None, None, 4 * 1 + 3 * 200, 5 * 441 + 4 * 200])
        self.assertEqual(len(parted(words, 100, 5)), 4)


class Parted(unittest.TestCase):
    def refuse(self, words, wide, most):
        with self.assertRaises(NoParting) as caught:
            parted(words, wide, most)
        self.assertIsInstance(caught.exception, CueError)

    def test_against_a_search(self):
        refused = 0
        for words, wide, most in cases():
            found = partings(words, wide, most)
            if not found:
                self.refuse(words, wide, most)
                refused += 1
                continue
            told = parted(words, wide, most)
            self.assertIs(type(told), list)
            self.assertEqual({type(row) for row in told}, {str})
            self.assertIn(told, found)
            self.assertEqual(cost(told, wide), min(cost(rows, wide) for rows in found), (words, wide, most))
            self.assertIs(lets_parting(words, wide, most, told, parting_table(words, wide, most)), True)
        self.assertGreater(refused, 50)

    def test_known_ones(self):
        for words, wide, most, told in [("Good morning, my dear friends.", 20, 2, ["Good morning,", "my dear friends."]),
                                        ("Good morning.", 20, 2, ["Good morning."]), ("a b", 1, 2, ["a", "b"]),
                                        ("No. Yes.", 4, 5, ["No.", "Yes."]), ("Hello", 5, 1, ["Hello"]),
                                        ("aaa. b cccc", 6, 3, ["aaa.", "b cccc"])]:
            self.assertEqual(parted(words, wide, most), told)

    def test_a_row_just_as_wide_as_told(self):
        self.assertEqual(parted("abc de", 6, 1), ["abc de"])
        self.refuse("abc de", 5, 1)
        self.assertEqual(parted("abc de", 5, 2), ["abc", "de"])
        self.refuse("abc de", 2, 5)
        self.refuse("a" * 30, 29, 5)
        self.assertEqual(parted("a" * 30, 30, 1), ["a" * 30])

    def test_too_many_rows(self):
        for most in range(1, 6):
            for many in range(1, 8):
                words = " ".join(["abc"] * many)
                if many <= most:
                    self.assertEqual(parted(words, 3, most), ["abc"] * many)
                else:
                    self.refuse(words, 3, most)


def by_the_words(words, wide, most, rows, table):
    """[25], of the checker."""
    parts = words.split(" ")
    if not isinstance(rows, list) or not all(isinstance(row, str) for row in rows) or rows not in partings(words, wide, most):
        return False
    if not isinstance(table, list) or len(table) != most + 1:
        return False
    for prices in table:
        if not isinstance(prices, list) or len(prices) != len(parts) + 1:
            return False
        if not all(price is None or is_number(price) for price in prices):
            return False
    if table[0][0] != 0:
        return False
    for k in range(most):
        for i in range(len(parts) + 1):
            for j in range(i + 1, len(parts) + 1):
                row = " ".join(parts[i:j])
                if table[k][i] is None or len(row) > wide:
                    continue
                q = (wide - len(row)) ** 2 + (break_cost(row) if j < len(parts) else 0)
                if table[k + 1][j] is None or table[k + 1][j] > table[k][i] + q:
                    return False
    lasts = [prices[-1] for prices in table[1:] if prices[-1] is not None]
    return bool(lasts) and min(lasts) == cost(rows, wide)


def spoiled_rows(words, rows):
    yield from ([], None, tuple(rows), words, "", 0, True, {row: row for row in rows}, [rows], Hostile(), [[]], [""])
    yield rows + [""]
    yield [""] + rows
    yield rows + rows
    yield rows[::-1]
    yield [" ".join(rows)]
    yield words.split(" ")
    for place, row in enumerate(rows):
        ahead, behind = rows[:place], rows[place + 1:]
        yield ahead + behind
        yield ahead + [row, row] + behind
        for other in [row + " ", " " + row, row + ".", row[:-1], row[1:], row.upper(), row[::-1], row + "\n", "", None, 0, True,
                      [row], (row,), row.encode(), Hostile(), row.replace(" ", "  "), row + " " + row]:
            yield ahead + [other] + behind
        if " " in row:
            yield ahead + row.split(" ", 1) + behind
            yield ahead + row.rsplit(" ", 1) + behind
        yield ahead + [row[:1], row[1:]] + behind
        if behind:
            yield ahead + [row + " " + behind[0]] + behind[1:]
            yield ahead + [row + behind[0]] + behind[1:]


def spoiled_tables(table):
    yield from ([], None, tuple(table), "", 0, True, dict(enumerate(table)), [table], Hostile(), [None] * len(table))
    yield table[1:]
    yield table[:-1]
    yield table + [table[-1]]
    yield table[::-1]
    for k, prices in enumerate(table):
        for other in [None, tuple(prices), prices[:-1], prices[1:], prices + [None], prices + [0], [], 0, Hostile(), "",
                      dict(enumerate(prices))]:
            yield table[:k] + [other] + table[k + 1:]
        for j, price in enumerate(prices):
            for other in [None, 0, 1, -1, True, False, "0", "", [0], (0,), Hostile(), 10 ** 30, -10 ** 30,
                          price + 1 if price is not None else 7, price - 1 if price is not None else -7]:
                yield table[:k] + [prices[:j] + [other] + prices[j + 1:]] + table[k + 1:]


class LetsParting(unittest.TestCase):
    def told(self):
        for words, wide, most in [("a", 1, 1), ("a", 5, 3), ("a b", 1, 2), ("a b", 3, 2), ("ab, c d", 4, 2), ("a. b c! dd", 5, 3),
                                  ("a, b, c, d", 6, 5), ("one two three", 9, 2), ("abcdefg. hijklmn", 11, 2),
                                  (". xxx xxxxxxxx. xx", 13, 2)]:
            yield words, wide, most, parted(words, wide, most), parting_table(words, wide, most)

    def test_rows_spoiled(self):
        answers = []
        for words, wide, most, rows, table in self.told():
            for thing in itertools.chain(spoiled_rows(words, rows), all_partings(words)):
                told = lets_parting(words, wide, most, thing, table)
                self.assertIs(told, by_the_words(words, wide, most, thing, table), (words, wide, most, thing, table))
                answers.append(told)
        self.assertGreater(answers.count(False), 200)
        self.assertIn(True, answers)

    def test_tables_spoiled(self):
        answers = []
        for words, wide, most, rows, table in self.told():
            for thing in spoiled_tables(table):
                told = lets_parting(words, wide, most, rows, thing)
                self.assertIs(told, by_the_words(words, wide, most, rows, thing), (words, wide, most, rows, thing))
                answers.append(told)
        self.assertGreater(answers.count(False), 500)
        self.assertGreater(answers.count(True), 50)

    def test_other_rows_of_the_same_price(self):
        table = parting_table("a b c", 3, 2)
        self.assertIs(lets_parting("a b c", 3, 2, ["a b", "c"], table), True)
        self.assertIs(lets_parting("a b c", 3, 2, ["a", "b c"], table), True)
        self.assertIs(lets_parting("a b c", 3, 3, ["a", "b", "c"], parting_table("a b c", 3, 3)), False)

    def test_rows_of_the_right_price_that_are_no_such_parting(self):
        table = parting_table("abcdefg. hijklmn", 11, 2)
        self.assertEqual(cost(["abcdefg. hijklmn"], 11), cost(["abcdefg.", "hijklmn"], 11))
        self.assertIs(lets_parting("abcdefg. hijklmn", 11, 2, ["abcdefg.", "hijklmn"], table), True)
        self.assertIs(lets_parting("abcdefg. hijklmn", 11, 2, ["abcdefg. hijklmn"], table), False)
        words = "abcdefg. hijklmn xxxxxxxxxxx"
        table = parting_table(words, 11, 3)
        self.assertIs(lets_parting(words, 11, 3, ["abcdefg.", "hijklmn", "xxxxxxxxxxx"], table), True)
        self.assertIs(lets_parting(words, 11, 3, ["abcdefg. hijklmn", "xxxxxxxxxxx"], table), False)
        words, few, more = ". xxx xxxxxxxx. xx", [". xxx", "xxxxxxxx. xx"], [".", "xxx xxxxxxxx.", "xx"]
        self.assertEqual(cost(few, 13), cost(more, 13))
        self.assertIs(lets_parting(words, 13, 2, few, parting_table(words, 13, 2)), True)
        self.assertIs(lets_parting(words, 13, 2, more, parting_table(words, 13, 2)), False)

    def test_other_tables_that_show_it(self):
        table = parting_table("a b c", 3, 2)
        self.assertEqual(table, [[0, None, None, None], [None, 204, 200, None], [None, None, 408, 204]])
        for k, j, number in [(2, 2, 407), (2, 2, 0), (2, 2, -5), (2, 1, 0), (2, 0, -9), (0, 3, -9), (0, 3, 10 ** 30)]:
            other = copy.deepcopy(table)
            other[k][j] = number
            self.assertIs(lets_parting("a b c", 3, 2, ["a b", "c"], other), True, (k, j, number))
        for k, j, number in [(2, 2, 409), (2, 2, None), (2, 3, 203), (2, 3, 205), (2, 3, None), (1, 1, 205), (1, 1, 203), (1, 1, None),
                             (0, 0, 1), (0, 0, -1), (0, 0, None), (0, 0, False), (1, 3, 203), (1, 3, 0), (0, 1, 0), (1, 0, 0), (0, 1, 10 ** 6), (1, 0, 4000)]:
            other = copy.deepcopy(table)
            other[k][j] = number
            self.assertIs(lets_parting("a b c", 3, 2, ["a b", "c"], other), False, (k, j, number))
        other = copy.deepcopy(table)
        other[1][3] = 204
        self.assertIs(lets_parting("a b c", 3, 2, ["a b", "c"], other), True)
        other[1][3] = 205
        self.assertIs(lets_parting("a b c", 3, 2, ["a b", "c"], other), True)

    def test_where_there_is_no_parting(self):
        for words, wide, most in [("ab", 1, 1), ("a b c", 1, 2), ("a bb", 1, 5)]:
            table = parting_table(words, wide, most)
            for rows in itertools.chain(all_partings(words), [[], None]):
                self.assertIs(lets_parting(words, wide, most, rows, table), False)

    def test_all_small_tables(self):
        for table in itertools.product((None, 0, 1), repeat=4):
            table = [list(table[:2]), list(table[2:])]
            self.assertIs(lets_parting("a", 1, 1, ["a"], table), by_the_words("a", 1, 1, ["a"], table))
            self.assertIs(lets_parting("a", 2, 1, ["a"], table), by_the_words("a", 2, 1, ["a"], table))

    def test_whatever_is_handed_in(self):
        table = parting_table("a b", 3, 2)
        for thing in no_texts() + ["", "a b", [Hostile()], ["a", Hostile()], [None, "b"], [[0, None, None], Hostile(), None]]:
            self.assertIs(lets_parting("a b", 3, 2, thing, table), False)
            self.assertIs(lets_parting("a b", 3, 2, ["a b"], thing), False)
            self.assertIs(lets_parting("a b", 3, 2, thing, thing), False)
        self.assertIs(lets_parting("a b", 3, 2, ["a b"], table), True)

    def test_it_parts_nothing(self):
        table = parting_table("a b c", 3, 2)
        with mock.patch("cuetimer.parting.parted", None), mock.patch("cuetimer.parting.parting_table", None):
            self.assertIs(lets_parting("a b c", 3, 2, ["a b", "c"], table), True)


class Values(unittest.TestCase):
    def test_nothing_handed_in_is_changed(self):
        rows, table = ["a b", "c"], parting_table("a b c", 3, 2)
        before = copy.deepcopy((rows, table))
        parting_price(rows, 3)
        lets_parting("a b c", 3, 2, rows, table)
        self.assertEqual((rows, table), before)

    def test_lists_are_the_askers_own(self):
        for ask in (lambda: parting_table("a b c", 3, 2), lambda: parted("a b c", 3, 2)):
            told = ask()
            before = copy.deepcopy(told)
            for part in told:
                if isinstance(part, list):
                    part.append(5)
            told.append("more")
            self.assertEqual(ask(), before)

    def test_no_two_lists_of_a_table_are_one(self):
        table = parting_table("ab cd", 1, 5)
        table[2][0] = 7
        self.assertEqual([prices[0] for prices in table], [0, None, 7, None, None, None])


if __name__ == "__main__":
    unittest.main()
