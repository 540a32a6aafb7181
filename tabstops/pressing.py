"""Rows spread by a ruler, pressed by one, and moved from one to another."""

from tabstops.errors import NotSpread, TooWide

BLANK = " "
JUMP = "\t"
GREATEST_WIDTH = 2000


def check_plain(row):
    if JUMP in row:
        raise NotSpread("a row with a jump in it is not spread yet")


def columns(row, ruler):
    places = []
    column = 0
    for sign in row:
        places.append(column)
        column = ruler.next_stop(column) if sign == JUMP else column + 1
    places.append(column)
    return places


def spread(row, ruler):
    places = columns(row, ruler)
    width = places[-1]
    # Ahead of the making of blanks, as the width may be any number.
    if width > GREATEST_WIDTH:
        raise TooWide(f"a row is wider than {GREATEST_WIDTH}")
    signs = [BLANK] * width
    for column, sign in zip(places, row):
        if sign != JUMP:
            signs[column] = sign
    return "".join(signs)


def pressed_part(part):
    kept = part.rstrip(BLANK)
    # A jump in the place of a single blank would make the row no shorter.
    if len(part) - len(kept) < 2:
        return part
    return kept + JUMP


def pressed(row, ruler):
    check_plain(row)
    parts = []
    begin = 0
    end = ruler.next_stop(begin)
    while end <= len(row):
        parts.append(pressed_part(row[begin:end]))
        begin = end
        end = ruler.next_stop(begin)
    # No stop stands at the end of what is left, so no jump can lead there.
    parts.append(row[begin:])
    return "".join(parts)


def moved(row, old, new):
    return pressed(spread(row, old), new)
