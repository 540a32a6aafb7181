"""The interface's part on tabstops/errors.py."""

import unittest

from tabstops.errors import BadStops, NoGap, NotSpread, StopsError, TooWide

REFUSALS = (BadStops, NotSpread, TooWide, NoGap)


class Errors(unittest.TestCase):
    def test_each_is_called_by_its_name(self):
        names = [kind.__name__ for kind in (StopsError,) + REFUSALS]
        self.assertEqual(names, ["StopsError", "BadStops", "NotSpread", "TooWide", "NoGap"])

    def test_stops_error_is_a_value_error(self):
        self.assertTrue(issubclass(StopsError, ValueError))

    def test_each_refusal_is_a_stops_error_and_a_value_error(self):
        for kind in REFUSALS:
            with self.subTest(kind=kind.__name__):
                self.assertIsNot(kind, StopsError)
                self.assertTrue(issubclass(kind, StopsError))
                with self.assertRaises(StopsError):
                    raise kind("words")
                with self.assertRaises(ValueError):
                    raise kind("words")

    def test_no_refusal_is_another_one(self):
        for kind in REFUSALS:
            for other in REFUSALS:
                if kind is not other:
                    with self.subTest(kind=kind.__name__, other=other.__name__):
                        self.assertFalse(issubclass(kind, other))

    def test_stops_error_is_none_of_the_refusals(self):
        for kind in REFUSALS:
            with self.subTest(kind=kind.__name__):
                self.assertFalse(issubclass(StopsError, kind))


if __name__ == "__main__":
    unittest.main()
