"""Points 11 and 12 and the interface's part on tabstops/choosing.py."""

import itertools
import time
import unittest

from cases import SIGNS, Case, made_row
from tabstops.choosing import best
from tabstops.errors import NotSpread
from tabstops.pressing import pressed
from tabstops.rulers import Ruler


def width_of(rows):
    return max([len(row) for row in rows], default=0)


def price_by(ruler, rows):
    return sum(len(pressed(row, ruler)) for row in rows)


def price_of(choice, rows):
    return price_by(Ruler(list(choice), width_of(rows) + 1), rows)


def toll_by_the_words(begin, end, rows):
    """Point 12, counted column by column."""
    toll = 0
    for row in rows:
        there = [column for column in range(begin, end) if column < len(row)]
        if len(row) >= end and row[end - 1] == " ":
            filled = [column for column in there if row[column] != " "]
            toll += len([column for column in there if filled and column <= filled[-1]]) + 1
        else:
            toll += len(there)
    return toll


def ledger_by_the_words(rows):
    ledger = [0]
    for end in range(1, width_of(rows) + 1):
        ledger.append(min(ledger[begin] + toll_by_the_words(begin, end, rows) for begin in range(end)))
    return ledger


def least_price_by_the_words(rows, ledger):
    return min(ledger[b] + sum(len(row[b:]) for row in rows) for b in range(width_of(rows) + 1))


def small_lists():
    """All lists of one short row, of two shorter ones, and some of three."""
    def rows_up_to(longest):
        return ["".join(signs) for length in range(longest + 1) for signs in itertools.product("x ", repeat=length)]

    yield from ([row] for row in rows_up_to(7))
    yield from (list(pair) for pair in itertools.product(rows_up_to(4), repeat=2))
    yield from (list(three) for three in itertools.product(rows_up_to(6)[::13], repeat=3))


def made_rows(number, length, seed):
    return [made_row(length, seed + 1000 * k) for k in range(number)]


WIDER_LISTS = (
    ["a  b    c", "ab c    d", "abcd    e"],
    ["          x", "   x      x", "x         x", "x"],
    ["name      sum", "ann       12", "bertram   7 "],
    ["           ", "    ", "  x"],
    ["x   x   x   ", "  x   x   x "],
)


def all_choices(rows):
    columns = range(1, width_of(rows) + 1)
    for size in range(len(columns) + 1):
        yield from itertools.combinations(columns, size)


class Answers(Case):
    def assert_best(self, rows, tried=None):
        """Asks for the best stops and holds the answer against the words, and against all choices tried."""
        answer = best(rows)
        self.assertIs(type(answer), tuple)
        self.assertEqual(len(answer), 3)
        stops, ledger, price = answer
        self.assertIs(type(stops), list)
        self.assertIs(type(ledger), list)
        self.assertIs(type(price), int)
        self.assertLessEqual({type(number) for number in stops + ledger}, {int})
        self.assertEqual(len(ledger), width_of(rows) + 1)
        self.assertEqual(ledger, ledger_by_the_words(rows))
        self.assertEqual(price, least_price_by_the_words(rows, ledger))
        self.assertEqual(stops, sorted(set(stops)))
        self.assertTrue(all(1 <= stop <= width_of(rows) for stop in stops))
        self.assertEqual(price_of(stops, rows), price)
        if tried is not None:
            self.assertEqual(price, min(price_of(choice, rows) for choice in tried))

    def assert_answer(self, rows, needed_stop, ledger, price):
        """Names only a stop that every best choice has, as which one is told isn't promised."""
        answer = best(rows)
        self.assertIn(needed_stop, answer[0])
        self.assertEqual(answer[1:], (ledger, price))


class Best(Answers):
    def test_no_rows(self):
        self.assertEqual(best([]), ([], [0], 0))

    def test_rows_without_signs(self):
        self.assertEqual(best([""]), ([], [0], 0))
        self.assertEqual(best(["", "", ""]), ([], [0], 0))

    def test_rows_of_blanks_alone(self):
        for rows in ([" "], ["  "], [" ", "  "], [" " * 9], [" " * 3, "", " " * 7], ["  "] * 5):
            self.assert_best(rows, all_choices(rows))
        self.assertEqual(best([" " * 9]), ([9], [0] + [1] * 9, 1))
        self.assertEqual(best([" " * 4, " " * 4])[2], 2)
        self.assertEqual(best([" " * 2, " " * 4])[2], 3)

    def test_no_blanks(self):
        answer = best(["abc", "de"])
        self.assertEqual(answer[1:], ([0, 2, 4, 5], 5))
        self.assertEqual(price_of(answer[0], ["abc", "de"]), 5)

    def test_one_stop_is_the_best(self):
        self.assert_answer(["a     b"], 6, [0, 1, 2, 2, 2, 2, 2, 3], 3)
        self.assert_answer(["    x", "ab  y"], 4, [0, 2, 3, 4, 4, 6], 6)

    def test_a_stop_at_the_width(self):
        self.assert_answer(["abc   "], 6, [0, 1, 2, 3, 4, 4, 4], 4)

    def test_a_short_row_has_no_jump_to_a_stop_behind_it(self):
        rows = ["a   ", "abcdefg"]
        self.assert_best(rows, all_choices(rows))
        self.assert_answer(rows, 4, [0, 2, 4, 5, 6, 7, 8, 9], 9)

    def test_rows_of_different_lengths(self):
        for rows in (["", "x", "  x", "    x  "], ["x    x", "x  ", "", "   "], ["        ", "a", "ab      c"]):
            for order in itertools.permutations(rows):
                self.assert_best(list(order), all_choices(rows))

    def test_each_order_has_the_same_ledger_and_price(self):
        rows = ["x    x", "x  ", "", "   x   "]
        self.assertEqual(len({(tuple(best(list(order))[1]), best(list(order))[2])
                              for order in itertools.permutations(rows)}), 1)

    def test_short_rows_with_all_choices(self):
        for rows in small_lists():
            self.assert_best(rows, all_choices(rows))

    def test_wider_rows_with_all_choices(self):
        for rows in WIDER_LISTS:
            self.assert_best(rows, all_choices(rows))

    def test_no_ruler_presses_to_fewer_signs(self):
        rows = made_rows(12, 40, 9)
        price = best(rows)[2]
        for step in range(1, 42):
            for told in ([], [3], [4, 9], [1, 2, 30], [40], [5, 11, 17, 23]):
                self.assertGreaterEqual(price_by(Ruler(told, step), rows), price)

    def test_every_sign_but_the_blank_counts_alike(self):
        wanted = best(["xx   xx  ", " xxx   x"])[1:]
        for sign in SIGNS.strip(" "):
            rows = [row.replace("x", sign) for row in ("xx   xx  ", " xxx   x")]
            self.assertEqual(best(rows)[1:], wanted)

    def test_60_rows_of_120_signs_in_seconds(self):
        for rows in (made_rows(60, 120, 4), [" " * 120] * 60, ["x" * 120] * 60, ["x  " * 40] * 60):
            began = time.monotonic()
            stops, ledger, price = best(rows)
            self.assertLess(time.monotonic() - began, 10)
            self.assertEqual(len(ledger), 121)
            self.assertEqual(price_of(stops, rows), price)
            self.assertEqual(price, least_price_by_the_words(rows, ledger))

    def test_the_ledger_of_long_rows(self):
        self.assert_best(made_rows(5, 60, 2))
        self.assert_best([row[:11 * k] for k, row in enumerate(made_rows(6, 60, 8))])

    def test_somewhat_beyond_the_bounds_is_not_refused(self):
        rows = made_rows(61, 121, 5)
        stops, ledger, price = best(rows)
        self.assertEqual(len(ledger), 122)
        self.assertEqual(price_of(stops, rows), price)

    def test_a_row_with_a_jump_is_refused(self):
        for row in ("\t", "\tab", "a\tb", "ab\t", "  \t", "x" * 119 + "\t"):
            self.assert_refused(NotSpread, best, [row])
            for place in range(4):
                rows = ["", "a   b", "  "]
                rows.insert(place, row)
                self.assert_refused(NotSpread, best, rows)

    def test_a_jump_in_any_of_60_rows_is_refused(self):
        for place in range(60):
            rows = ["a   b"] * 60
            rows[place] = "a\tb"
            self.assert_refused(NotSpread, best, rows)

    def test_arguments_by_name(self):
        self.assertEqual(best(rows=["    "])[2], 1)


if __name__ == "__main__":
    unittest.main()
