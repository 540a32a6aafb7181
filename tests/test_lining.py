"""Points 9 and 10 and the interface's part on tabstops/lining.py."""

import itertools
import unittest

from cases import GREATEST, Case
from tabstops.errors import NoGap, TooWide
from tabstops.lining import cell_stops, lined
from tabstops.pressing import columns, spread
from tabstops.rulers import Ruler


def cell_stops_by_the_words(rows, gap):
    """Point 9, sentence by sentence."""
    cells_of_rows = [row.split("\t") for row in rows]
    stops = []
    for k in range(1, max([row.count("\t") for row in rows], default=0) + 1):
        longest = max(len(cells[k - 1]) for cells in cells_of_rows if len(cells) > k)
        stops.append((stops[-1] if stops else 0) + gap + longest)
    return stops


def small_lists():
    """All lists of up to two short rows, and some of three."""
    rows = ["".join(signs) for length in range(5) for signs in itertools.product("x\t", repeat=length)]
    for size in range(3):
        yield from (list(picked) for picked in itertools.product(rows, repeat=size))
    yield from (list(picked) for picked in itertools.product(rows[::3], repeat=3))


def stops_would_do(rows, gap, stops):
    """Whether each cell but the first of a row begins at its stop, at least the gap behind the one ahead."""
    for row in rows:
        end = 0
        for stop, cell in zip([None] + list(stops), row.split("\t")):
            if stop is not None and stop < end + gap:
                return False
            end = len(cell) + (stop or 0)
    return True


class StopsAndRows(Case):
    def assert_stops(self, answer, wanted):
        self.assertEqual(answer, wanted)
        self.assertIs(type(answer), list)
        self.assertLessEqual({type(stop) for stop in answer}, {int})

    def assert_lined(self, answer, wanted):
        self.assertEqual(answer, wanted)
        self.assertIs(type(answer), list)
        self.assertLessEqual({type(row) for row in answer}, {str})


class CellStops(StopsAndRows):
    def test_no_rows(self):
        self.assert_stops(cell_stops([]), [])
        self.assert_stops(cell_stops([], 1), [])
        self.assert_stops(cell_stops([], GREATEST), [])

    def test_rows_without_jumps(self):
        self.assert_stops(cell_stops([""]), [])
        self.assert_stops(cell_stops(["abc"]), [])
        self.assert_stops(cell_stops(["abc", "", "  "], 5), [])
        self.assert_stops(cell_stops(["x" * 2000], GREATEST), [])

    def test_one_row(self):
        self.assert_stops(cell_stops(["ab\tc"]), [3])
        self.assert_stops(cell_stops(["ab\tcde\tf"]), [3, 7])
        self.assert_stops(cell_stops(["ab\tcde\tf"], 2), [4, 9])

    def test_the_longest_cell_of_each_place(self):
        self.assert_stops(cell_stops(["a\tbcd\te", "abcde\tb\tf"]), [6, 10])
        self.assert_stops(cell_stops(["abcde\tb\tf", "a\tbcd\te"]), [6, 10])
        self.assert_stops(cell_stops(["a\tb\tc", "ab\tb\tc", "abc\tb\tc", "ab\tbc\tc"]), [4, 7])

    def test_blanks_count_as_signs(self):
        self.assert_stops(cell_stops(["  a  \tb"]), [6])
        self.assert_stops(cell_stops(["   \t \t"]), [4, 6])

    def test_different_numbers_of_jumps(self):
        self.assert_stops(cell_stops(["a\tb\tc\td", "ab\tc", "abc"]), [3, 5, 7])
        self.assert_stops(cell_stops(["abc", "ab\tc", "a\tb\tc\td"]), [3, 5, 7])
        self.assert_stops(cell_stops(["", "\t", "\t\t\t"]), [1, 2, 3])

    def test_empty_cells(self):
        self.assert_stops(cell_stops(["\t"]), [1])
        self.assert_stops(cell_stops(["\t\t\t"]), [1, 2, 3])
        self.assert_stops(cell_stops(["\t\t\t"], 4), [4, 8, 12])
        self.assert_stops(cell_stops(["\tabc\t\td"]), [1, 5, 6])
        self.assert_stops(cell_stops(["\tab\t", "abc\t\t"]), [4, 7])

    def test_the_last_cell_counts_for_none(self):
        self.assert_stops(cell_stops(["a\tb", "abcdefgh"]), [2])
        self.assert_stops(cell_stops(["a\tbcdefgh"]), [2])
        self.assert_stops(cell_stops(["a\tb\tc", "a\tbcdefgh"]), [2, 4])
        self.assert_stops(cell_stops(["a\tbcdefgh\t", "a\tb\tc"]), [2, 10])

    def test_the_gap(self):
        rows = ["ab\tc\td", "a\tbcd\te"]
        self.assert_stops(cell_stops(rows), [3, 7])
        self.assert_stops(cell_stops(rows, 1), [3, 7])
        self.assert_stops(cell_stops(rows, 2), [4, 9])
        self.assert_stops(cell_stops(rows, 1000), [1002, 2005])
        self.assert_stops(cell_stops(rows, GREATEST), [GREATEST + 2, 2 * GREATEST + 5])

    def test_stops_beyond_2000_are_not_refused(self):
        self.assert_stops(cell_stops(["x" * 1998 + "\t"], 50), [2048])
        self.assert_stops(cell_stops(["\t" * 2000], 3), list(range(3, 6001, 3)))

    def test_a_hundred_rows(self):
        rows = ["x" * k + "\t" + "y" * (100 - k) + "\tz" for k in range(100)]
        self.assert_stops(cell_stops(rows), [100, 201])

    def test_short_rows_whole(self):
        for rows in small_lists():
            for gap in (1, 3):
                self.assertEqual(cell_stops(rows, gap), cell_stops_by_the_words(rows, gap))

    def test_no_smaller_stops_would_do(self):
        for rows in (["a\tb"], ["ab\t\tc", "\tab\tc"], ["\t\t"], ["abc", "a\tbcd", "ab\tc\td"]):
            for gap in (1, 2):
                least = cell_stops(rows, gap)
                self.assertTrue(stops_would_do(rows, gap, least))
                for stops in itertools.product(range(1, least[-1] + 2), repeat=len(least)):
                    if stops_would_do(rows, gap, stops):
                        self.assertTrue(all(stop >= other for stop, other in zip(stops, least)))

    def test_a_gap_below_1(self):
        for gap in (0, -1, -8, -GREATEST):
            for rows in ([], [""], ["abc"], ["a\tb"], ["x" * 1999 + "\t"], ["x" * 2001]):
                self.assert_refused(NoGap, cell_stops, rows, gap)

    def test_arguments_by_name(self):
        self.assert_stops(cell_stops(rows=["a\tb"], gap=3), [4])


class Lined(StopsAndRows):
    def test_no_rows(self):
        self.assert_lined(lined([]), [])
        self.assert_lined(lined([], GREATEST), [])

    def test_rows_without_jumps(self):
        self.assert_lined(lined([""]), [""])
        self.assert_lined(lined(["abc", "", " d "], 5), ["abc", "", " d "])
        self.assert_lined(lined(["abc"], GREATEST), ["abc"])

    def test_ordinary_rows(self):
        self.assert_lined(
            lined(["name\tsum\tnote", "a\t12\t", "longer\t3\tx"]),
            ["name   sum note", "a      12  ", "longer 3   x"])
        self.assert_lined(
            lined(["name\tsum\tnote", "a\t12\t", "longer\t3\tx"], 2),
            ["name    sum  note", "a       12   ", "longer  3    x"])

    def test_different_numbers_of_jumps(self):
        self.assert_lined(
            lined(["a\tb\tc\td", "ab\tc", "abcdefg", "", "\t"]),
            ["a  b c d", "ab c", "abcdefg", "", "   "])

    def test_empty_cells(self):
        self.assert_lined(lined(["\t\tx", "\tab\ty"]), ["    x", " ab y"])
        self.assert_lined(lined(["\t", "\t\t"], 3), ["   ", "      "])

    def test_a_row_handed_in_twice(self):
        self.assert_lined(lined(["a\tb", "a\tb"]), ["a b", "a b"])

    def test_the_order_stays(self):
        self.assert_lined(lined(["c\t3", "a\t1", "b\t2"]), ["c 3", "a 1", "b 2"])

    def test_the_gap(self):
        rows = ["ab\tc", "a\tb"]
        self.assert_lined(lined(rows), ["ab c", "a  b"])
        self.assert_lined(lined(rows, 1), ["ab c", "a  b"])
        self.assert_lined(lined(rows, 4), ["ab    c", "a     b"])
        self.assert_lined(lined(rows, 1900), ["ab" + " " * 1900 + "c", "a" + " " * 1901 + "b"])

    def test_short_rows_whole(self):
        for rows in small_lists():
            for gap in (1, 3):
                stops = cell_stops_by_the_words(rows, gap)
                ruler = Ruler(stops)
                self.assertEqual(lined(rows, gap), [spread(row, ruler) for row in rows])
                for row in rows:
                    places = columns(row, ruler)
                    begins = [places[k + 1] for k, sign in enumerate(row) if sign == "\t"]
                    self.assertEqual(begins, stops[:len(begins)])

    def test_a_width_of_2000(self):
        self.assert_lined(lined(["x" * 2000]), ["x" * 2000])
        self.assert_lined(lined(["a\tb"], 1998), ["a" + " " * 1998 + "b"])
        self.assert_lined(lined(["a\t"], 1999), ["a" + " " * 1999])
        self.assert_lined(lined(["\t" * 2000]), [" " * 2000])
        self.assert_lined(lined(["x" * 1998 + "\ty", "\tz"]), ["x" * 1998 + " y", " " * 1999 + "z"])

    def test_a_width_of_2001_and_more(self):
        for rows, gap in (
            (["x" * 2001], 1),
            (["a\tb"], 1999),
            (["a\t"], 2000),
            (["\t" * 2000 + "x"], 1),
            (["\t" * 1001], 2),
            (["\t"], GREATEST),
            (["x" * 1998 + "\tyz"], 1),
        ):
            with self.subTest(gap=gap):
                self.assert_refused(TooWide, lined, rows, gap)

    def test_one_of_the_rows_too_wide_wherever_it_stands(self):
        for place in range(4):
            rows = ["a", "b\tc", ""]
            rows.insert(place, "d\t" + "e" * 1999)
            self.assert_refused(TooWide, lined, rows)

    def test_too_wide_through_a_cell_of_another_row(self):
        self.assert_lined(lined(["x" * 1990 + "\t", "\t123456789"]), ["x" * 1990 + " ", " " * 1991 + "123456789"])
        self.assert_refused(TooWide, lined, ["x" * 1990 + "\t", "\t1234567890"])

    def test_a_great_gap_is_too_wide_only_where_there_is_a_jump(self):
        self.assert_refused(TooWide, lined, ["a", "b\t"], GREATEST)
        self.assert_lined(lined(["a", "b"], GREATEST), ["a", "b"])

    def test_a_gap_below_1_ahead_of_all_else(self):
        for gap in (0, -1, -8, -GREATEST):
            for rows in ([], [""], ["abc"], ["a\tb"], ["x" * 1999 + "\tyz"], ["x" * 2001], ["\t" * 2001]):
                self.assert_refused(NoGap, lined, rows, gap)

    def test_arguments_by_name(self):
        self.assert_lined(lined(rows=["a\tb"], gap=3), ["a   b"])


if __name__ == "__main__":
    unittest.main()
