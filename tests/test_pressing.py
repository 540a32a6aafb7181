"""Points 5 to 8 and the interface's part on tabstops/pressing.py."""

import itertools
import unittest

from cases import GREATEST, SIGNS, Case, made_row
from tabstops.errors import NotSpread, TooWide
from tabstops.pressing import columns, moved, pressed, spread
from tabstops.rulers import Ruler


def small_rulers():
    for told in ([], [1], [2], [3], [1, 2], [2, 3], [1, 4], [2, 5], [1, 3, 4], [3, 4, 6]):
        for step in (1, 2, 3, 4, 8):
            yield Ruler(told, step)


def all_rows(signs, longest):
    for length in range(longest + 1):
        for row in itertools.product(signs, repeat=length):
            yield "".join(row)


def columns_by_the_words(row, ruler):
    """Point 5, with the next stop sought column by column."""
    places = [0]
    for sign in row:
        column = places[-1] + 1
        while sign == "\t" and not ruler.is_stop(column):
            column += 1
        places.append(column)
    return places


def all_that_spread_to(plain, ruler):
    """Every row that is spread to the plain row by this ruler."""
    found = []

    def go_on(row, column):
        if column == len(plain):
            found.append(row)
            return
        go_on(row + plain[column], column + 1)
        stop = ruler.next_stop(column)
        if stop <= len(plain) and not plain[column:stop].strip(" "):
            go_on(row + "\t", stop)

    go_on("", 0)
    return found


class ColumnsAndTexts(Case):
    def assert_columns(self, row, ruler, wanted):
        with self.subTest(row=row):
            answer = columns(row, ruler)
            self.assertEqual(answer, wanted)
            self.assertIs(type(answer), list)
            self.assertEqual({type(column) for column in answer}, {int})
            self.assertEqual(len(answer), len(row) + 1)

    def assert_text(self, answer, wanted):
        self.assertEqual(answer, wanted)
        self.assertIs(type(answer), str)


class Columns(ColumnsAndTexts):
    def test_the_row_without_signs(self):
        for ruler in (Ruler([]), Ruler([1], 1), Ruler([GREATEST], GREATEST)):
            self.assert_columns("", ruler, [0])

    def test_plain_rows(self):
        self.assert_columns("a", Ruler([]), [0, 1])
        self.assert_columns(" ", Ruler([1], 1), [0, 1])
        self.assert_columns("a  b~", Ruler([2, 3], 1), [0, 1, 2, 3, 4, 5])
        self.assert_columns(SIGNS, Ruler([]), list(range(len(SIGNS) + 1)))
        self.assert_columns("x" * 2000, Ruler([]), list(range(2001)))

    def test_jumps_alone(self):
        self.assert_columns("\t", Ruler([]), [0, 8])
        self.assert_columns("\t\t\t", Ruler([]), [0, 8, 16, 24])
        self.assert_columns("\t\t\t\t\t", Ruler([4, 10, 11], 7), [0, 4, 10, 11, 18, 25])
        self.assert_columns("\t\t\t", Ruler([], 1), [0, 1, 2, 3])
        self.assert_columns("\t" * 2000, Ruler([], 3), list(range(0, 6001, 3)))

    def test_a_jump_between_signs(self):
        self.assert_columns("ab\tc", Ruler([]), [0, 1, 2, 8, 9])
        self.assert_columns("\tab", Ruler([]), [0, 8, 9, 10])
        self.assert_columns("ab\t", Ruler([]), [0, 1, 2, 8])

    def test_a_jump_that_stands_at_a_stop(self):
        self.assert_columns("abcd\te", Ruler([4, 10], 8), [0, 1, 2, 3, 4, 10, 11])
        self.assert_columns("12345678\t9", Ruler([]), list(range(9)) + [16, 17])
        self.assert_columns("abc\te", Ruler([4, 10], 8), [0, 1, 2, 3, 4, 5])
        self.assert_columns("abcde\te", Ruler([4, 10], 8), [0, 1, 2, 3, 4, 5, 10, 11])

    def test_a_jump_ahead_of_at_and_behind_the_last_told_stop(self):
        ruler = Ruler([2, 5], 4)
        self.assert_columns("abcd\t", ruler, [0, 1, 2, 3, 4, 5])
        self.assert_columns("abcde\t", ruler, [0, 1, 2, 3, 4, 5, 9])
        self.assert_columns("abcdef\t", ruler, [0, 1, 2, 3, 4, 5, 6, 9])
        self.assert_columns("abcdefgh\t\t", ruler, list(range(9)) + [9, 13])

    def test_great_told_stops_and_steps(self):
        told = [3, GREATEST - 5, GREATEST]
        step = GREATEST - 1
        self.assert_columns(
            "a\t\tb\t\t\tc", Ruler(told, step),
            [0, 1, 3, GREATEST - 5, GREATEST - 4, GREATEST, GREATEST + step, GREATEST + 2 * step,
             GREATEST + 2 * step + 1])
        self.assert_columns("\t" * 2000, Ruler([], GREATEST), [GREATEST * k for k in range(2001)])
        self.assert_columns("\ta\t", Ruler([GREATEST], 1), [0, GREATEST, GREATEST + 1, GREATEST + 2])

    def test_wider_than_2000_is_not_refused(self):
        self.assert_columns("\tx", Ruler([2001]), [0, 2001, 2002])
        self.assert_columns("x" * 1999 + "\t", Ruler([], 3000), list(range(2000)) + [3000])

    def test_short_rows_whole(self):
        for ruler in small_rulers():
            for row in all_rows("x \t", 5):
                self.assertEqual(columns(row, ruler), columns_by_the_words(row, ruler))

    def test_arguments_by_name(self):
        self.assertEqual(columns(row="\t", ruler=Ruler([3])), [0, 3])


class Spread(ColumnsAndTexts):
    def test_ordinary_rows(self):
        ruler = Ruler([4, 10], 8)
        self.assert_text(spread("", ruler), "")
        self.assert_text(spread("ab\tc", ruler), "ab  c")
        self.assert_text(spread("ab\tc\td\te", ruler), "ab  c     d       e")
        self.assert_text(spread("\t\tx\t", ruler), "          x       ")
        self.assert_text(spread("name\tsum", Ruler([])), "name    sum")

    def test_a_plain_row_stays(self):
        for row in ("a", " ", "  a  b  ", SIGNS, " " * 40, made_row(2000, 3)):
            self.assert_text(spread(row, Ruler([3, 5], 2)), row)

    def test_every_sign_between_jumps(self):
        for sign in SIGNS:
            self.assert_text(spread("\t" + sign + "\t" + sign, Ruler([2, 5])), "  " + sign + "  " + sign)

    def test_blanks_ahead_of_and_behind_a_jump(self):
        ruler = Ruler([4], 4)
        self.assert_text(spread("a \tb", ruler), "a   b")
        self.assert_text(spread("a\t b", ruler), "a    b")
        self.assert_text(spread("a \t b", ruler), "a    b")
        self.assert_text(spread("abc \tb", ruler), "abc     b")
        self.assert_text(spread(" \t ", ruler), "     ")
        self.assert_text(spread("a  \t", ruler), "a   ")

    def test_a_jump_at_a_stop(self):
        self.assert_text(spread("abcd\te", Ruler([4, 6])), "abcd  e")
        self.assert_text(spread("a\tb", Ruler([], 1)), "a b")

    def test_a_width_of_2000(self):
        self.assert_text(spread("x" * 2000, Ruler([])), "x" * 2000)
        self.assert_text(spread(" " * 2000, Ruler([])), " " * 2000)
        self.assert_text(spread("\t", Ruler([2000])), " " * 2000)
        self.assert_text(spread("a\tb", Ruler([1999])), "a" + " " * 1998 + "b")
        self.assert_text(spread("\t" * 250, Ruler([])), " " * 2000)
        self.assert_text(spread("x\t" * 1000, Ruler([], 2)), "x " * 1000)
        self.assert_text(spread("\t" * 2000, Ruler([], 1)), " " * 2000)

    def test_a_width_of_2001_and_more(self):
        for row, ruler in (
            ("x" * 2001, Ruler([])),
            (" " * 2001, Ruler([])),
            ("\t", Ruler([2001])),
            ("a\tb", Ruler([2000])),
            ("a\t ", Ruler([2000])),
            ("\t" * 250 + "x", Ruler([])),
            ("\t" * 251, Ruler([])),
            ("x" * 2000 + "\t", Ruler([], 1)),
            ("\t", Ruler([GREATEST])),
            ("a\tb\t", Ruler([5], GREATEST)),
            ("\t" * 2000, Ruler([GREATEST - 1, GREATEST], GREATEST)),
        ):
            with self.subTest(width=columns(row, ruler)[-1]):
                self.assert_refused(TooWide, spread, row, ruler)

    def test_short_rows_whole(self):
        for ruler in small_rulers():
            for row in all_rows("x \t", 5):
                places = columns_by_the_words(row, ruler)
                standing = {place: sign for place, sign in zip(places, row) if sign != "\t"}
                wanted = "".join(standing.get(column, " ") for column in range(places[-1]))
                self.assertEqual(spread(row, ruler), wanted)

    def test_arguments_by_name(self):
        self.assert_text(spread(row="a\tb", ruler=Ruler([3])), "a  b")


class Pressed(ColumnsAndTexts):
    def assert_pressed(self, plain, ruler, wanted):
        with self.subTest(plain=plain):
            self.assert_text(pressed(plain, ruler), wanted)
            if len(plain) <= 2000:
                self.assertEqual(spread(wanted, ruler), plain)

    def test_the_row_without_signs(self):
        for ruler in (Ruler([]), Ruler([1], 1), Ruler([GREATEST])):
            self.assert_pressed("", ruler, "")

    def test_no_blanks(self):
        self.assert_pressed("abcdefghijklmnop", Ruler([]), "abcdefghijklmnop")

    def test_one_blank_stays_and_more_become_a_jump(self):
        ruler = Ruler([4, 8], 8)
        self.assert_pressed("abc defg", ruler, "abc defg")
        self.assert_pressed("ab  defg", ruler, "ab\tdefg")
        self.assert_pressed("a   defg", ruler, "a\tdefg")
        self.assert_pressed("    defg", ruler, "\tdefg")
        self.assert_pressed("abcdefg ", ruler, "abcdefg ")
        self.assert_pressed("abcdef  ", ruler, "abcdef\t")

    def test_blanks_that_do_not_end_at_a_stop_stay(self):
        ruler = Ruler([4, 8], 8)
        self.assert_pressed("   defg", ruler, "   defg")
        self.assert_pressed("abcd  gh", ruler, "abcd  gh")
        self.assert_pressed("  cd  gh", ruler, "  cd  gh")

    def test_blanks_across_a_stop(self):
        ruler = Ruler([4, 8], 8)
        self.assert_pressed("ab    gh", ruler, "ab\t  gh")
        self.assert_pressed("abc   gh", ruler, "abc   gh")
        self.assert_pressed("abc     ij", ruler, "abc \tij")

    def test_the_length_is_a_stop(self):
        self.assert_pressed("ab  ", Ruler([4]), "ab\t")
        self.assert_pressed("abc ", Ruler([4]), "abc ")
        self.assert_pressed("a       ", Ruler([]), "a\t")
        self.assert_pressed("x" * 4 + " " * 6, Ruler([4, 10]), "xxxx\t")

    def test_the_length_is_no_stop(self):
        self.assert_pressed("ab ", Ruler([4]), "ab ")
        self.assert_pressed("a  ", Ruler([4]), "a  ")
        self.assert_pressed("ab   ", Ruler([4]), "ab\t ")
        self.assert_pressed("a        ", Ruler([]), "a\t ")
        self.assert_pressed("ab" + " " * 100, Ruler([GREATEST]), "ab" + " " * 100)

    def test_blanks_alone(self):
        self.assert_pressed(" ", Ruler([1]), " ")
        self.assert_pressed(" ", Ruler([2]), " ")
        self.assert_pressed("  ", Ruler([2]), "\t")
        self.assert_pressed("  ", Ruler([1, 2]), "  ")
        self.assert_pressed("  ", Ruler([3]), "  ")
        self.assert_pressed(" " * 8, Ruler([]), "\t")
        self.assert_pressed(" " * 7, Ruler([]), " " * 7)
        self.assert_pressed(" " * 9, Ruler([]), "\t ")

    def test_several_parts_of_blanks_alone(self):
        self.assert_pressed(" " * 24, Ruler([]), "\t\t\t")
        self.assert_pressed("a" + " " * 25 + "b", Ruler([]), "a\t\t\t  b")
        self.assert_pressed(" " * 12, Ruler([3, 4, 5, 9], 3), "\t  \t\t")
        self.assert_pressed(" " * 2000, Ruler([], 2), "\t" * 1000)

    def test_a_step_of_1(self):
        for plain in (" ", "    ", "a  b   ", " " * 50, made_row(200, 5)):
            self.assert_pressed(plain, Ruler([], 1), plain)
            self.assert_pressed(plain, Ruler([1, 2], 1), plain)
        self.assert_pressed("a       b    c ", Ruler([4, 6], 1), "a\t\t  b    c ")

    def test_great_stops(self):
        self.assert_pressed("a    b  ", Ruler([3, 5, GREATEST], GREATEST), "a\t\tb  ")

    def test_long_rows(self):
        for seed in range(1, 9):
            for ruler in (Ruler([]), Ruler([], 2), Ruler([5, 6, 20, 100], 7), Ruler(list(range(3, 300, 3)), 50)):
                plain = made_row(2000, seed)
                answer = pressed(plain, ruler)
                self.assertLess(len(answer), 2000)
                self.assertEqual(spread(answer, ruler), plain)

    def test_longer_than_2000_is_not_refused(self):
        self.assert_pressed("x" * 2001, Ruler([]), "x" * 2001)
        self.assert_pressed(" " * 2008, Ruler([]), "\t" * 251)

    def test_the_shortest_and_of_these_the_one_with_the_fewest_jumps(self):
        for ruler in small_rulers():
            for plain in all_rows("x ", 8):
                rows = all_that_spread_to(plain, ruler)
                ranks = sorted((len(row), row.count("\t"), row) for row in rows)
                self.assertEqual(pressed(plain, ruler), ranks[0][2])
                self.assertEqual(len([rank for rank in ranks if rank[:2] == ranks[0][:2]]), 1)

    def test_a_row_with_a_jump_is_refused(self):
        for ruler in (Ruler([]), Ruler([2], 1), Ruler([GREATEST])):
            for row in ("\t", "\t\t", "\tab", "a\tb", "ab\t", "a  b   \t", "\t" + " " * 30,
                        "x" * 1000 + "\t" + "x" * 999, "x" * 1999 + "\t"):
                self.assert_refused(NotSpread, pressed, row, ruler)

    def test_arguments_by_name(self):
        self.assert_text(pressed(row="a  ", ruler=Ruler([3])), "a\t")


class Moved(ColumnsAndTexts):
    def test_ordinary_rows(self):
        self.assert_text(moved("", Ruler([]), Ruler([4])), "")
        self.assert_text(moved("a\tb", Ruler([]), Ruler([], 4)), "a\t\tb")
        self.assert_text(moved("a\t\tb", Ruler([], 4), Ruler([])), "a\tb")
        self.assert_text(moved("a\tb", Ruler([]), Ruler([5])), "a\t   b")
        self.assert_text(moved("a\tb", Ruler([]), Ruler([GREATEST])), "a       b")
        self.assert_text(moved("a\tb", Ruler([]), Ruler([], 1)), "a       b")
        self.assert_text(moved("\t\t", Ruler([3, 5]), Ruler([2, 5])), "\t\t")

    def test_plain_rows_are_pressed(self):
        self.assert_text(moved("a   b", Ruler([9]), Ruler([4])), "a\tb")

    def test_to_the_same_ruler(self):
        ruler = Ruler([4, 8])
        self.assert_text(moved("a \tb\tc", ruler, ruler), "a\tb\tc")
        self.assert_text(moved("abc\td", ruler, ruler), "abc d")

    def test_to_another_ruler_and_back(self):
        rulers = (Ruler([]), Ruler([], 3), Ruler([5, 6, 20, 100], 7), Ruler([2, GREATEST]), Ruler([], 1))
        for old in rulers:
            for new in rulers:
                for seed in range(1, 5):
                    row = pressed(made_row(400, seed), old)
                    self.assertEqual(moved(moved(row, old, new), new, old), row)

    def test_short_rows_whole(self):
        rulers = (Ruler([], 3), Ruler([1, 4], 2), Ruler([2, 3], 8))
        for old in rulers:
            for new in rulers:
                for row in all_rows("x \t", 5):
                    answer = moved(row, old, new)
                    self.assertEqual(spread(answer, new), spread(row, old))
                    self.assertEqual(answer, pressed(spread(row, old), new))

    def test_each_sign_keeps_its_column(self):
        def standing(row, ruler):
            return [(column, sign) for column, sign in zip(columns(row, ruler), row) if sign not in " \t"]

        old = Ruler([5, 6, 20], 7)
        for row in ("a\tb \t c\t\td", "\t" + SIGNS + "\t" + SIGNS, pressed(made_row(1500, 6), old)):
            for new in (Ruler([]), Ruler([], 2), Ruler([1, 2, 3, 50], 5), Ruler([7])):
                self.assertEqual(standing(moved(row, old, new), new), standing(row, old))

    def test_a_width_of_2000_by_the_old_ruler(self):
        self.assert_text(moved("a\tb", Ruler([1999]), Ruler([], 1999)), "a\tb")
        self.assert_text(moved("\t", Ruler([2000]), Ruler([1000, 2000])), "\t\t")
        self.assert_text(moved("x" * 2000, Ruler([]), Ruler([])), "x" * 2000)

    def test_wider_than_2000_by_the_old_ruler(self):
        for row, old in (("a\tb", Ruler([2000])), ("\t", Ruler([2001])), ("\t", Ruler([GREATEST])),
                         ("\t\t", Ruler([4], GREATEST)), ("x" * 2001, Ruler([]))):
            for new in (Ruler([]), Ruler([2, 4], 1), old):
                self.assert_refused(TooWide, moved, row, old, new)

    def test_the_width_by_the_new_ruler_is_of_no_weight(self):
        self.assert_text(moved("\tb", Ruler([3]), Ruler([GREATEST], GREATEST)), "   b")

    def test_arguments_by_name(self):
        self.assert_text(moved(row="\tb", old=Ruler([4]), new=Ruler([2])), "\t  b")


if __name__ == "__main__":
    unittest.main()
