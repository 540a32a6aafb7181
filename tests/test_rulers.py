"""Points 3 and 4, point 2 as far as it speaks of rulers, and the interface's part on tabstops/rulers.py."""

import itertools
import unittest

from tabstops.errors import BadStops, NoGap, NotSpread, StopsError, TooWide
from tabstops.rulers import Ruler

GREAT = 10 ** 70 + 7
GREATEST = 10 ** 100 - 1


def stops_by_the_words(told, step, end):
    """All stops up to end, written out as point 3 says them."""
    stops = [stop for stop in told if stop <= end]
    stop = (told[-1] if told else 0) + step
    while stop <= end:
        stops.append(stop)
        stop += step
    return stops


def small_rulers():
    for size in range(5):
        for told in itertools.combinations(range(1, 8), size):
            for step in range(1, 6):
                yield list(told), step


class Case(unittest.TestCase):
    def assert_next(self, ruler, pairs):
        for column, stop in pairs:
            with self.subTest(column=column):
                answer = ruler.next_stop(column)
                self.assertEqual(answer, stop)
                self.assertIs(type(answer), int)

    def assert_stops(self, ruler, columns):
        for column in columns:
            with self.subTest(column=column):
                self.assertIs(ruler.is_stop(column), True)

    def assert_no_stops(self, ruler, columns):
        for column in columns:
            with self.subTest(column=column):
                self.assertIs(ruler.is_stop(column), False)

    def assert_refused(self, told, *step):
        kept = list(told)
        with self.subTest(told=told, step=step):
            with self.assertRaises(BadStops) as caught:
                Ruler(told, *step)
            self.assertIsInstance(caught.exception, StopsError)
            self.assertIsInstance(caught.exception, ValueError)
            self.assertNotIsInstance(caught.exception, (NotSpread, TooWide, NoGap))
            self.assertEqual(told, kept)


class WhatIsTaken(Case):
    def test_lists_that_rise(self):
        lists = (
            [],
            [1],
            [5],
            [1, 2],
            [1, 2, 3, 4],
            [4, 10, 11, 300],
            list(range(1, 71)),
            list(range(3, 400, 4)),
            list(range(1, 151)),
            [GREAT],
            [1, GREAT, GREAT + 1, GREATEST],
            [GREAT + 3 * k for k in range(100)],
        )
        for told in lists:
            for step in (1, 2, 8, 100, GREAT, GREATEST):
                with self.subTest(told=told, step=step):
                    kept = list(told)
                    ruler = Ruler(told, step)
                    self.assertEqual(told, kept)
                    self.assertEqual(ruler.next_stop(0), told[0] if told else step)
                    last = told[-1] if told else 0
                    self.assertEqual(ruler.next_stop(last), last + step)

    def test_step_is_8_where_it_is_left_out(self):
        self.assert_next(Ruler([]), ((0, 8), (7, 8), (8, 16), (16, 24)))
        self.assert_next(Ruler([3]), ((0, 3), (3, 11), (11, 19)))
        self.assert_stops(Ruler([]), (8, 16, 800))
        self.assert_no_stops(Ruler([]), (1, 2, 4, 7, 9, 12))

    def test_arguments_by_name(self):
        ruler = Ruler(told=[2], step=5)
        self.assertEqual(ruler.next_stop(column=2), 7)
        self.assertIs(ruler.is_stop(column=7), True)

    def test_asking_changes_no_list(self):
        told = [2, 5, 9]
        ruler = Ruler(told, 4)
        for column in range(30):
            ruler.next_stop(column)
            ruler.is_stop(column)
        self.assertEqual(told, [2, 5, 9])


class WhatIsRefused(Case):
    def test_first_stop_below_1(self):
        for first in (0, -1, -8, -GREAT):
            self.assert_refused([first])
            self.assert_refused([first, 1, 2])
            self.assert_refused([first, GREAT], 4)

    def test_stop_as_great_as_the_one_ahead(self):
        for told in ([1, 1], [4, 4], [4, 4, 9, 12], [4, 9, 9, 12], [4, 9, 12, 12], [GREAT, GREAT]):
            self.assert_refused(told)
            self.assert_refused(told, 3)

    def test_stop_less_than_the_one_ahead(self):
        for told in ([2, 1], [9, 4, 12, 15], [4, 12, 9, 15], [4, 9, 15, 12], [4, 9, 15, 1], [GREAT + 1, GREAT]):
            self.assert_refused(told)
            self.assert_refused(told, 3)

    def test_later_stop_below_1(self):
        for told in ([1, 0], [1, -1], [3, 5, 0], [3, -5, 7], [3, 5, -GREAT]):
            self.assert_refused(told)

    def test_fall_at_each_place_of_a_long_list(self):
        for place in range(1, 80):
            told = list(range(10, 810, 10))
            told[place] = told[place - 1]
            self.assert_refused(told)
            told[place] -= 1
            self.assert_refused(told)

    def test_step_below_1(self):
        for step in (0, -1, -8, -GREAT):
            self.assert_refused([], step)
            self.assert_refused([4], step)
            self.assert_refused([4, 9, GREAT], step)

    def test_both_at_once(self):
        self.assert_refused([0], 0)
        self.assert_refused([4, 4], -1)
        self.assert_refused([9, 4], 0)


class WhichColumnsAreStops(Case):
    def test_column_0_is_none(self):
        for told in ([], [1], [8, 9], [GREAT]):
            for step in (1, 8, GREAT):
                self.assert_no_stops(Ruler(told, step), (0,))

    def test_told_ones_and_those_beside(self):
        ruler = Ruler([4, 10, 11, 30], 7)
        self.assert_stops(ruler, (4, 10, 11, 30))
        self.assert_no_stops(ruler, (1, 3, 5, 7, 9, 12, 14, 17, 18, 29, 31))

    def test_behind_the_last_told_one(self):
        ruler = Ruler([4, 10, 11, 30], 7)
        self.assert_stops(ruler, (37, 44, 51, 30 + 7 * 1000, 30 + 7 * GREAT))
        self.assert_no_stops(ruler, (32, 35, 36, 38, 42, 43, 45, 49, 29 + 7 * 1000, 31 + 7 * 1000, 31 + 7 * GREAT))

    def test_no_told_stop(self):
        ruler = Ruler([], 5)
        self.assert_stops(ruler, (5, 10, 15, 5 * GREAT))
        self.assert_no_stops(ruler, (1, 4, 6, 9, 11, 5 * GREAT - 1, 5 * GREAT + 1))

    def test_steps_do_not_begin_ahead_of_the_last_told_one(self):
        ruler = Ruler([2, 20], 3)
        self.assert_no_stops(ruler, (3, 5, 6, 8, 11, 14, 17, 18, 21, 22))
        self.assert_stops(ruler, (2, 20, 23, 26))

    def test_step_of_1(self):
        ruler = Ruler([3, 6], 1)
        self.assert_no_stops(ruler, (0, 1, 2, 4, 5))
        self.assert_stops(ruler, (3, 6, 7, 8, 9, GREAT, GREATEST))

    def test_great_told_stops_and_steps(self):
        ruler = Ruler([5, GREAT], GREAT)
        self.assert_stops(ruler, (5, GREAT, 2 * GREAT, 3 * GREAT, GREAT * GREAT))
        self.assert_no_stops(ruler, (4, 6, 10, GREAT - 1, GREAT + 1, GREAT + 5, 2 * GREAT - 1, 2 * GREAT + 1))
        self.assert_no_stops(ruler, (GREAT * GREAT - 1, GREAT * GREAT + 1))

    def test_many_told_stops(self):
        told = [k * k for k in range(1, 101)]
        ruler = Ruler(told, 50)
        for column in range(10001):
            self.assertIs(ruler.is_stop(column), column in told)
        self.assert_stops(ruler, (10050, 10100))
        self.assert_no_stops(ruler, (10001, 10049, 10051, 10201))

    def test_small_rulers_whole(self):
        for told, step in small_rulers():
            ruler = Ruler(told, step)
            stops = stops_by_the_words(told, step, 25)
            answers = [ruler.is_stop(column) for column in range(26)]
            self.assertEqual(answers, [column in stops for column in range(26)], (told, step))


class TheNextStop(Case):
    def test_among_and_behind_told_stops(self):
        ruler = Ruler([4, 10, 11, 30], 7)
        self.assert_next(ruler, ((0, 4), (1, 4), (3, 4)))
        self.assert_next(ruler, ((4, 10), (5, 10), (9, 10), (10, 11), (11, 30), (12, 30), (29, 30)))
        self.assert_next(ruler, ((30, 37), (31, 37), (36, 37), (37, 44), (38, 44), (43, 44), (44, 51)))

    def test_one_told_stop(self):
        self.assert_next(Ruler([1], 3), ((0, 1), (1, 4), (2, 4), (3, 4), (4, 7)))
        self.assert_next(Ruler([6], 3), ((0, 6), (3, 6), (5, 6), (6, 9), (8, 9), (9, 12)))

    def test_no_told_stop(self):
        self.assert_next(Ruler([], 5), ((0, 5), (1, 5), (4, 5), (5, 10), (9, 10), (10, 15)))
        self.assert_next(Ruler([], 1), ((0, 1), (1, 2), (2, 3), (100, 101)))

    def test_great_columns_with_a_step_of_1(self):
        for told in ([], [3, 9], list(range(2, 140, 2))):
            self.assert_next(Ruler(told, 1), ((GREAT, GREAT + 1), (GREATEST, GREATEST + 1)))

    def test_great_columns_with_a_small_step(self):
        self.assert_next(Ruler([3], 8), ((3 + 8 * GREAT, 11 + 8 * GREAT), (10 + 8 * GREAT, 11 + 8 * GREAT)))

    def test_great_step(self):
        ruler = Ruler([3], GREAT)
        self.assert_next(ruler, ((0, 3), (3, 3 + GREAT), (4, 3 + GREAT), (GREAT, 3 + GREAT), (2 + GREAT, 3 + GREAT)))
        self.assert_next(ruler, ((3 + GREAT, 3 + 2 * GREAT), (GREAT * GREAT, 3 + GREAT * GREAT)))
        self.assert_next(ruler, ((3 + GREAT * GREAT, 3 + GREAT + GREAT * GREAT),))

    def test_great_told_stops(self):
        ruler = Ruler([5, GREAT, GREAT + 2, GREATEST], 8)
        self.assert_next(ruler, ((0, 5), (5, GREAT), (GREAT - 1, GREAT), (GREAT, GREAT + 2), (GREAT + 1, GREAT + 2)))
        self.assert_next(ruler, ((GREAT + 2, GREATEST), (GREATEST - 1, GREATEST), (GREATEST, GREATEST + 8)))

    def test_many_told_stops(self):
        told = [k * k for k in range(1, 101)]
        ruler = Ruler(told, 50)
        for column in range(10000):
            self.assertEqual(ruler.next_stop(column), min(stop for stop in told if stop > column))
        self.assert_next(ruler, ((10000, 10050), (10049, 10050), (10050, 10100)))

    def test_small_rulers_whole(self):
        for told, step in small_rulers():
            ruler = Ruler(told, step)
            stops = stops_by_the_words(told, step, 40)
            answers = [ruler.next_stop(column) for column in range(26)]
            wanted = [min(stop for stop in stops if stop > column) for column in range(26)]
            self.assertEqual(answers, wanted, (told, step))


class TheListBehindTheCall(Case):
    def assert_as_made(self, ruler):
        """Asks a ruler that was made of [4, 10, 30] and 7."""
        self.assert_next(ruler, ((0, 4), (4, 10), (10, 30), (29, 30), (30, 37), (37, 44)))
        self.assert_stops(ruler, (4, 10, 30, 37, 44))
        self.assert_no_stops(ruler, (0, 3, 5, 7, 8, 20, 29, 31, 35, 40, 42))

    def assert_not_moved_by(self, change):
        for asked_ahead in (False, True):
            told = [4, 10, 30]
            ruler = Ruler(told, 7)
            if asked_ahead:
                self.assert_as_made(ruler)
            change(told)
            self.assert_as_made(ruler)

    def test_something_appended(self):
        self.assert_not_moved_by(lambda told: told.append(35))
        self.assert_not_moved_by(lambda told: told.append(1))

    def test_something_put_ahead(self):
        self.assert_not_moved_by(lambda told: told.insert(0, 3))

    def test_a_stop_changed(self):
        for place, stop in ((0, 5), (1, 20), (2, 31), (2, 0)):
            self.assert_not_moved_by(lambda told: told.__setitem__(place, stop))

    def test_a_stop_taken_out(self):
        for place in range(3):
            self.assert_not_moved_by(lambda told: told.pop(place))

    def test_turned_round(self):
        self.assert_not_moved_by(lambda told: told.reverse())

    def test_emptied(self):
        self.assert_not_moved_by(lambda told: told.clear())

    def test_an_empty_list_filled(self):
        told = []
        ruler = Ruler(told, 5)
        told.append(2)
        self.assert_next(ruler, ((0, 5), (2, 5), (5, 10)))
        self.assert_no_stops(ruler, (2, 7))

    def test_two_rulers_side_by_side(self):
        first = Ruler([4, 10, 30], 7)
        second = Ruler([5], 2)
        third = Ruler([])
        for _ in range(2):
            self.assert_as_made(first)
            self.assert_next(second, ((0, 5), (4, 5), (5, 7), (30, 31)))
            self.assert_no_stops(second, (4, 10, 30, 44))
            self.assert_next(third, ((0, 8), (30, 32)))

    def test_two_rulers_of_one_list(self):
        told = [4, 10, 30]
        first = Ruler(told, 7)
        told.append(40)
        second = Ruler(told, 3)
        self.assert_as_made(first)
        self.assert_next(second, ((30, 40), (40, 43)))
        self.assert_as_made(first)

    def test_a_refused_ruler_leaves_another_as_it_was(self):
        told = [4, 10, 30]
        ruler = Ruler(told, 7)
        self.assert_refused(told, 0)
        self.assert_refused([6, 6], 2)
        self.assert_as_made(ruler)


if __name__ == "__main__":
    unittest.main()
