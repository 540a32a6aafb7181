"""What several of the tests share."""

import unittest

from tabstops.errors import BadStops, NoGap, NotSpread, StopsError, TooWide

GREATEST = 10 ** 100 - 1
SIGNS = "".join(chr(code) for code in range(ord(" "), ord("~") + 1) if chr(code) != "%")


def made_row(length, seed):
    """A plain row with blanks in stretches of many lengths, always the same for the same numbers."""
    row = ""
    state = seed
    while len(row) < length:
        state = (state * 1103515245 + 12345) % 2 ** 31
        row += SIGNS[1 + state // 7 % 90] * (state // 1000 % 6) + " " * (state // 100000 % 9)
    return row[:length]


class Case(unittest.TestCase):
    def assert_refused(self, kind, call, *handed):
        """The call is refused with this kind, and so with no other one."""
        with self.assertRaises(kind) as caught:
            call(*handed)
        self.assertIsInstance(caught.exception, StopsError)
        others = tuple(other for other in (BadStops, NotSpread, TooWide, NoGap) if other is not kind)
        self.assertNotIsInstance(caught.exception, others)
