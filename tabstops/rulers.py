"""Rulers: where the stops stand."""

from tabstops.errors import BadStops


def check_told(told):
    # Column 0 is never a stop, so it can stand for the stop ahead of the first one.
    ahead = 0
    for stop in told:
        if stop <= ahead:
            raise BadStops("the told stops must rise, and the first must be 1 or more")
        ahead = stop


def check_step(step):
    if step < 1:
        raise BadStops("the step must be 1 or more")


def least_greater(rising, column):
    # Halved and not walked, as a ruler with many told stops is asked once for every jump of a row.
    low = 0
    high = len(rising) - 1
    while low < high:
        middle = (low + high) // 2
        if rising[middle] > column:
            high = middle
        else:
            low = middle + 1
    return rising[low]


class Ruler:
    def __init__(self, told, step=8):
        check_told(told)
        check_step(step)
        # A copy, so that the asker may go on to change the list without moving the stops.
        self.told = tuple(told)
        self.step = step
        self.last = told[-1] if told else 0

    def next_stop(self, column):
        if column < self.last:
            return least_greater(self.told, column)
        # Reckoned and not walked, as the column may lie any number of steps behind the last told stop.
        steps = (column - self.last) // self.step + 1
        return self.last + steps * self.step

    def is_stop(self, column):
        return column > 0 and self.next_stop(column - 1) == column
