"""The best stops: those by which plain rows are pressed the shortest."""

from tabstops.pressing import BLANK, check_plain


def signs_from(column, lengths):
    return sum([max(0, length - column) for length in lengths])


def tolls_to(end, rows):
    jumps = 0
    kept = []
    for row in rows:
        head = row[:end]
        # A row that is too short for a stop at the end has no jump to it, whatever blanks it ends with.
        if len(head) == end and head.endswith(BLANK):
            jumps += 1
            head = head.rstrip(BLANK)
        kept.append(len(head))
    return [jumps + signs_from(begin, kept) for begin in range(end)]


def prices_to(end, rows, ledger):
    return [paid + toll for paid, toll in zip(ledger, tolls_to(end, rows))]


def place_of_least(numbers):
    return numbers.index(min(numbers))


def stops_back_from(last, origins):
    stops = []
    column = last
    while column > 0:
        stops.append(column)
        column = origins[column]
    stops.reverse()
    return stops


def best(rows):
    for row in rows:
        check_plain(row)
    lengths = [len(row) for row in rows]
    width = max(lengths, default=0)
    ledger = [0]
    # For each column the stop ahead of it by which the ledger's number came about.
    origins = [0]
    for end in range(1, width + 1):
        prices = prices_to(end, rows, ledger)
        ledger.append(min(prices))
        origins.append(place_of_least(prices))
    totals = [paid + signs_from(column, lengths) for column, paid in enumerate(ledger)]
    return stops_back_from(place_of_least(totals), origins), ledger, min(totals)
