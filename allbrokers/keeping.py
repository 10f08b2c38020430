"""How many rows must be kept until all groups have read them, and how fast they must be read."""

from allbrokers.checks import is_number
from allbrokers.readererrors import BadTimes
from allbrokers.times import MOST_ROWS, Growing, Times, check_times, common_period, enough_ticks, greatest_lag
from allbrokers.times import growth_of, lag_ahead, lags, number_at

MOST_BOUND = 1000


class Keep:
    """The greatest number of rows that wait for any group, with the first tick and group."""

    def __init__(self, rows, tick, group):
        self.rows = rows
        self.tick = tick
        self.group = group

    def __eq__(self, other):
        return (isinstance(other, Keep) and self.rows == other.rows and self.tick == other.tick
                and self.group == other.group)

    def __bool__(self):
        return True


def least_keeping(fed, groups):
    """Keep or Growing: how many rows wait at most for any group, behind feeding and before reading."""
    check_times(fed)
    if not isinstance(groups, (list, tuple)) or not groups:
        raise BadTimes("not a list of timetables")
    for read in groups:
        check_times(read)
    found = []
    for place, read in enumerate(groups):
        growth = growth_of(fed, read)
        if growth > 0:
            return Growing(common_period(fed, read), growth)
        waiting = waiting_rows(fed, read, enough_ticks(fed, read))
        rows = max(waiting)
        found.append((-rows, waiting.index(rows), place))
    rows, tick, group = min(found)
    return Keep(-rows, tick, group)


def waiting_rows(fed, read, many):
    """For the first ticks how many rows wait behind feeding and before reading."""
    ahead = [0] + lags(fed, read, many)
    return [ahead[tick] + number_at(fed, tick) for tick in range(many)]


class Rate:
    """The least number of rows that must be read at each tick, and the first tick at which one less is too few."""

    def __init__(self, number, tick):
        self.number = number
        self.tick = tick

    def __eq__(self, other):
        return isinstance(other, Rate) and self.number == other.number and self.tick == other.tick

    def shows(self, fed, most):
        """Whether no lag is beyond the bound by the number, and one is at the tick by one less."""
        check_asked(fed, most)
        if self.number < 0 or not is_enough(fed, self.number, most):
            return False
        if self.number == 0 or self.tick is None:
            return self.number == 0 and self.tick is None
        return self.tick >= 0 and lag_ahead(fed, steady(self.number - 1), self.tick + 1) > most


def check_asked(fed, most):
    """Refuse what is no timetable, and no bound."""
    check_times(fed)
    if not is_number(most) or most > MOST_BOUND:
        raise BadTimes("not a bound")


def steady(number):
    """The timetable with the same number at all ticks, or the greatest one, which reads all, too."""
    return Times([], [min(number, MOST_ROWS)])


def is_enough(fed, number, most):
    """Whether no lag is beyond a bound if so many rows are read at each tick."""
    found = greatest_lag(fed, steady(number))
    return bool(found) and found.number <= most


def least_rate(fed, most):
    """The least number of rows that, read at each tick, keep all lags at most at a bound, as evidence."""
    check_asked(fed, most)
    number = 0
    while not is_enough(fed, number, most):
        number += 1
    return Rate(number, first_beyond(fed, number - 1, most) if number > 0 else None)


def first_beyond(fed, number, most):
    """The first tick whose lag is beyond a bound, if so many rows are read at each tick, which are too few."""
    lag, tick = 0, 0
    while lag <= most:
        lag = max(0, lag + number_at(fed, tick) - number)
        tick += 1
    return tick - 1
