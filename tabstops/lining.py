"""Rows lined up: their cells begin at stops that they share."""

from tabstops.errors import NoGap
from tabstops.pressing import JUMP, spread
from tabstops.rulers import Ruler


def check_gap(gap):
    if gap < 1:
        raise NoGap("the gap must be 1 or more")


def longest_cells(rows):
    longest = []
    for row in rows:
        # Without the row's last cell: nothing stands behind it that a stop would have to make room for.
        for place, cell in enumerate(row.split(JUMP)[:-1]):
            if place == len(longest):
                longest.append(0)
            longest[place] = max(longest[place], len(cell))
    return longest


def cell_stops(rows, gap=1):
    check_gap(gap)
    stops = []
    stop = 0
    for length in longest_cells(rows):
        stop = stop + gap + length
        stops.append(stop)
    return stops


def lined(rows, gap=1):
    # The step is of no weight: no row has more jumps than there are cell stops.
    ruler = Ruler(cell_stops(rows, gap))
    return [spread(row, ruler) for row in rows]
