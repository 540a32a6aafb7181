"""Points 1 and 2 over the whole program."""

import ast
import pathlib
import unittest

import tabstops
from cases import SIGNS
from tabstops.choosing import best
from tabstops.errors import StopsError
from tabstops.lining import cell_stops, lined
from tabstops.pressing import columns, moved, pressed, spread
from tabstops.rulers import Ruler

ROWS = ["ab\tc\td", "", "a", "\tabc\t", "x  \t y"]
PLAIN_ROWS = ["ab    c   d", "", "a", "     abc   ", "   "]

# Every call that tells lists: its name, and the call, which hands in things of its own each time.
TELLING = (
    ("columns", lambda: [columns("ab\tc\t", Ruler([4], 3))]),
    ("columns of the row without signs", lambda: [columns("", Ruler([]))]),
    ("cell_stops", lambda: [cell_stops(list(ROWS), 2)]),
    ("cell_stops of no rows", lambda: [cell_stops([])]),
    ("lined", lambda: [lined(list(ROWS))]),
    ("lined, no rows", lambda: [lined([])]),
    ("best", lambda: list(best(list(PLAIN_ROWS))[:2])),
    ("best of no rows", lambda: list(best([])[:2])),
    ("best of rows without signs", lambda: list(best([""])[:2])),
)

CHANGES = (
    lambda things: things.append(7),
    lambda things: things.insert(0, 7),
    lambda things: things.clear(),
    lambda things: things.reverse(),
    lambda things: things.extend([1, 2, 3]),
    lambda things: things.__setitem__(slice(0, 1), [99, 98]),
)


def shown(ruler):
    """All that is told of a ruler, near its told stops and far behind them."""
    asked = list(range(60)) + [10 ** 30 + k for k in range(20)]
    return [(ruler.next_stop(column), ruler.is_stop(column)) for column in asked]


def try_all(rows, ruler, other):
    """Asks for everything, whether it is refused or not."""
    for row in rows:
        for call in (columns, spread, pressed):
            try_one(call, row, ruler)
        try_one(moved, row, ruler, other)
        try_one(moved, row, other, ruler)
    for gap in (1, 3, 0, 3000):
        try_one(cell_stops, rows, gap)
        try_one(lined, rows, gap)
    try_one(best, rows)


def try_one(call, *handed):
    try:
        call(*handed)
    except StopsError:
        pass


class NothingHandedInIsChanged(unittest.TestCase):
    def test_lists_of_rows(self):
        for kept in (ROWS, PLAIN_ROWS, [], [""], ["a\tb"] * 3, ["x" * 2001, "\t"]):
            rows = list(kept)
            try_all(rows, Ruler([4, 9], 5), Ruler([]))
            self.assertEqual(rows, kept)

    def test_lists_of_told_stops(self):
        for kept in ([], [3], [4, 9, 20]):
            told = list(kept)
            ruler = Ruler(told, 6)
            try_all(list(ROWS), ruler, Ruler(told))
            try_all(list(PLAIN_ROWS), ruler, Ruler(told))
            self.assertEqual(told, kept)

    def test_rulers(self):
        for told, step in (([], 8), ([3], 1), ([4, 9, 20], 6), ([1, 5000], 10 ** 20)):
            ruler = Ruler(told, step)
            other = Ruler([2, 7], 3)
            try_all(list(ROWS), ruler, other)
            try_all(list(PLAIN_ROWS), ruler, other)
            try_all(["\t" * 2000, "x" * 2001], ruler, other)
            self.assertEqual(shown(ruler), shown(Ruler(told, step)))
            self.assertEqual(shown(other), shown(Ruler([2, 7], 3)))

    def test_a_ruler_answers_alike_whenever_it_is_asked(self):
        told = [4, 9, 20]
        ruler = Ruler(told, 6)
        other = Ruler([], 5)
        row = "a\tbc\t\td   \te"
        plain = spread(row, ruler)

        def answers():
            return columns(row, ruler), spread(row, ruler), pressed(plain, ruler), moved(row, ruler, other)

        ahead = answers()
        told.clear()
        try_all(list(ROWS), ruler, other)
        self.assertEqual(answers(), ahead)


class EveryListIsTheAskersOwn(unittest.TestCase):
    def test_changed_by_the_asker_it_changes_no_later_answer(self):
        for name, ask in TELLING:
            wanted = [list(told) for told in ask()]
            for change in CHANGES:
                with self.subTest(asked=name):
                    for told in ask():
                        change(told)
                    self.assertEqual(ask(), wanted)

    def test_nothing_asked_later_changes_it(self):
        for name, ask in TELLING:
            with self.subTest(asked=name):
                told = ask()
                kept = [list(things) for things in told]
                for _, other in TELLING:
                    for things in other():
                        things.append(5)
                try_all(list(ROWS), Ruler([4, 9], 5), Ruler([]))
                self.assertEqual(told, kept)

    def test_each_answer_is_a_new_list(self):
        for name, ask in TELLING:
            with self.subTest(asked=name):
                lists = ask() + ask()
                self.assertEqual(len({id(told) for told in lists}), len(lists))

    def test_no_answer_is_the_list_that_was_handed_in(self):
        rows = ["a", "b"]
        told = lined(rows)
        self.assertIsNot(told, rows)
        rows.append("c")
        self.assertEqual(told, ["a", "b"])
        told.append("d")
        self.assertEqual(rows, ["a", "b", "c"])

    def test_what_is_done_to_the_rows_later_changes_no_answer(self):
        rows = list(PLAIN_ROWS)
        answer = best(rows)
        kept = (list(answer[0]), list(answer[1]), answer[2])
        rows.clear()
        self.assertEqual(answer, kept)

    def test_a_list_of_cell_stops_that_a_ruler_is_made_of(self):
        stops = cell_stops(ROWS)
        ruler = Ruler(stops)
        wanted = shown(ruler)
        stops.clear()
        self.assertEqual(shown(ruler), wanted)
        self.assertEqual(cell_stops(ROWS), [4, 8])


class Rows(unittest.TestCase):
    def test_every_sign_of_a_row_goes_through_everything(self):
        ruler = Ruler([100], 50)
        row = SIGNS + "\t" + SIGNS
        plain = SIGNS + " " * (100 - len(SIGNS)) + SIGNS
        self.assertEqual(spread(row, ruler), plain)
        self.assertEqual(pressed(plain, ruler), row)
        self.assertEqual(moved(row, ruler, ruler), row)
        self.assertEqual(columns(row, ruler)[-1], len(plain))
        self.assertEqual(cell_stops([row]), [len(SIGNS) + 1])
        self.assertEqual(lined([row]), [SIGNS + " " + SIGNS])
        self.assertEqual(best([SIGNS])[2], len(SIGNS))


class NoClockNoChanceNoFiles(unittest.TestCase):
    def test_only_the_packages_own_files_are_drawn_from(self):
        files = sorted(pathlib.Path(tabstops.__file__).parent.rglob("*.py"))
        self.assertGreaterEqual(len(files), 6)
        for file in files:
            for node in ast.walk(ast.parse(file.read_text(encoding="utf-8"))):
                with self.subTest(file=file.name):
                    self.assertNotIsInstance(node, ast.Import)
                    if isinstance(node, ast.ImportFrom):
                        self.assertEqual(node.module.split(".")[0], "tabstops")
                    if isinstance(node, ast.Name):
                        self.assertNotIn(node.id, ("open", "input", "print", "eval", "exec", "id", "hash", "__import__"))


if __name__ == "__main__":
    unittest.main()
