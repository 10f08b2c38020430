"""Timetables: how many rows are fed, or can be read, at each tick; and how many wait."""

from math import lcm

from allbrokers.checks import is_number
from allbrokers.readererrors import BadTimes

MOST_TICKS = 24
MOST_ROWS = 100


class Times:
    """Numbers of the ticks from 0: those of a front, then those of a period again and again."""

    def __init__(self, front, period):
        if not are_numbers(front) or not are_numbers(period) or not period:
            raise BadTimes("not a timetable")
        self.front = list(front)
        self.period = list(period)

    def __eq__(self, other):
        return isinstance(other, Times) and self.front == other.front and self.period == other.period

    def __getitem__(self, at):
        return number_at(self, at)

    def __iter__(self):
        raise TypeError("a timetable has no end: ask for ticks()")

    def __add__(self, other):
        if not isinstance(other, Times):
            raise BadTimes("not a timetable")
        ahead, length = common_front(self, other), common_period(self, other)
        sums = [number_at(self, tick) + number_at(other, tick) for tick in range(ahead + length)]
        return Times(sums[:ahead], sums[ahead:])

    def __mul__(self, other):
        if not is_number(other):
            raise BadTimes("not an integer from 0")
        return Times([number * other for number in self.front], [number * other for number in self.period])

    def at(self, tick):
        """The number of a tick."""
        return number_at(self, tick)

    def up_to(self, tick):
        """The sum of the numbers of all ticks before one."""
        if tick <= len(self.front):
            return sum(self.front[:tick])
        rounds, left = divmod(tick - len(self.front), len(self.period))
        return sum(self.front) + rounds * sum(self.period) + sum(self.period[:left])

    def ticks(self, *, start=0):
        """Generate, without end, the pairs of a tick and its number, from a tick on."""
        tick = start
        while True:
            yield tick, number_at(self, tick)
            tick += 1


def are_numbers(rows):
    """Whether a value is a list or tuple of at most 24 integers from 0 to 100."""
    if not isinstance(rows, (list, tuple)) or len(rows) > MOST_TICKS:
        return False
    return all([is_number(number) and number <= MOST_ROWS for number in rows])


def number_at(times, tick):
    """The number of a tick of a timetable."""
    ahead = len(times.front)
    return times.front[tick] if tick < ahead else times.period[(tick - ahead) % len(times.period)]


def common_front(one, other):
    """The first tick from which both timetables are in their periods."""
    return max(len(one.front), len(other.front))


def common_period(one, other):
    """The least common multiple of the lengths of both periods."""
    return lcm(len(one.period), len(other.period))


class Lag:
    """The greatest number of rows that wait behind a tick, and the first tick with it."""

    def __init__(self, number, tick):
        self.number = number
        self.tick = tick

    def __eq__(self, other):
        return isinstance(other, Lag) and self.number == other.number and self.tick == other.tick

    def __bool__(self):
        return True


class Growing:
    """There is no greatest lag: in each common period more rows are fed than can be read."""

    def __init__(self, period, growth):
        self.period = period
        self.growth = growth

    def __eq__(self, other):
        return isinstance(other, Growing) and self.period == other.period and self.growth == other.growth

    def __bool__(self):
        return False


def check_times(times):
    """Refuse what is no timetable."""
    if not isinstance(times, Times):
        raise BadTimes("not a timetable")


def greatest_lag(fed, read):
    """Lag or Growing: how many rows wait at most."""
    check_times(fed)
    check_times(read)
    growth = growth_of(fed, read)
    if growth > 0:
        return Growing(common_period(fed, read), growth)
    found = lags(fed, read, enough_ticks(fed, read))
    number = max(found)
    return Lag(number, found.index(number))


def growth_of(fed, read):
    """By how much more is fed than can be read in a common period."""
    length = common_period(fed, read)
    return sum(fed.period) * (length // len(fed.period)) - sum(read.period) * (length // len(read.period))


def enough_ticks(fed, read):
    """A number of ticks behind which no more rows wait than at one of them, if there is a greatest lag.

    In a period the lag falls by as much as more can be read, but not below what a period leaves by itself. So behind
    the first period it has fallen, or is what it stays at: then the second one is like all that follow.
    """
    return common_front(fed, read) + 2 * common_period(fed, read)


def lags(fed, read, many):
    """The list of the lags of the first ticks."""
    return lags_from(fed, read, 0, 0, many)


def lags_from(fed, read, lag, first, many):
    """The list of the lags of so many ticks from a first one on, ahead of which so many rows wait."""
    found = []
    for tick in range(first, first + many):
        lag = max(0, lag + number_at(fed, tick) - number_at(read, tick))
        found.append(lag)
    return found


def lag_after(fed, read, lag, first, many):
    """How many rows wait behind so many ticks from a first one on, ahead of which so many wait."""
    return lags_from(fed, read, lag, first, many)[-1] if many > 0 else lag


def lag_ahead(fed, read, tick):
    """How many rows wait ahead of a tick, however far it is."""
    ahead, length, growth = common_front(fed, read), common_period(fed, read), growth_of(fed, read)
    if tick <= ahead:
        return lag_after(fed, read, 0, 0, tick)
    lag = lag_after(fed, read, 0, 0, ahead)
    rounds, left = divmod(tick - ahead, length)
    if rounds > 0:
        # What a period leaves if no row waits ahead of it; it comes to more by each further one, if the lag grows.
        alone = lag_after(fed, read, 0, ahead, length)
        lag = max(lag + rounds * growth, alone + (rounds - 1) * max(0, growth))
    return lag_after(fed, read, lag, ahead, left)


def lag_lines(fed, read, many, /, *, first=0):
    """Generate a line for each of so many ticks from a first one on."""
    check_times(fed)
    check_times(read)
    before = lag_ahead(fed, read, first)
    for tick in range(first, first + many):
        lag = lag_after(fed, read, before, tick, 1)
        sign = "*" if lag > before else "."
        yield f"{tick:>6}{number_at(fed, tick):>5}{number_at(read, tick):>5}{lag:>7} {sign}"
        before = lag
