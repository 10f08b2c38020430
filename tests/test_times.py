"""Timetables and lags: point [25]."""

import itertools
import time
import unittest

from allbrokers.keeping import Keep
from allbrokers.readererrors import BadTimes
from allbrokers.times import Growing, Lag, Times, greatest_lag, lag_lines, lags
from brute import rng_of


def some_times(rng, most=5, greatest=4):
    return Times([rng.randint(0, greatest) for _ in range(rng.randint(0, most))], [rng.randint(0, greatest) for _ in range(rng.randint(1, most))])


def numbers_of(times, many):
    """The numbers of the first ticks, by the words of [25]."""
    return list(itertools.islice(itertools.chain(times.front, itertools.cycle(times.period)), many))


def slow_lags(fed, read, many):
    waiting, found = 0, []
    for more, most in zip(numbers_of(fed, many), numbers_of(read, many)):
        waiting += more
        waiting -= min(waiting, most)
        found.append(waiting)
    return found


def long_enough(fed, read, rounds=6):
    """The length of both fronts and of some common periods."""
    return len(fed.front) + len(read.front) + rounds * len(fed.period) * len(read.period)


class Numbers(unittest.TestCase):
    def test_example(self):
        fed, read = Times([4], [1, 0]), Times([], [1])
        told = [(fed + read).at(2), greatest_lag(fed, read).number, list(lag_lines(fed, read, 2, first=2))]
        self.assertEqual(told, [1, 3, ["     2    0    1      2 .", "     3    1    1      2 ."]])

    def test_near_and_far_ticks(self):
        rng = rng_of(25)
        for _ in range(100):
            times = some_times(rng, 24, 100)
            expected = numbers_of(times, 200)
            self.assertEqual([times.at(tick) for tick in range(200)], expected)
            self.assertEqual([times[tick] for tick in range(200)], expected)
            self.assertEqual([times.up_to(tick) for tick in range(201)], [sum(expected[:tick]) for tick in range(201)])
            first = rng.randrange(100)
            self.assertEqual(list(itertools.islice(times.ticks(start=first), 50)), list(enumerate(expected))[first:first + 50])
        self.assertEqual(list(itertools.islice(Times([3], [1]).ticks(), 3)), [(0, 3), (1, 1), (2, 1)])
        far = Times([9, 8], [1, 2, 3])
        self.assertEqual([far.at(10 ** 30 + 2), far[10 ** 30 + 3], far.up_to(3 * 10 ** 30 + 2), far.up_to(3 * 10 ** 30 + 4)], [2, 3, 6 * 10 ** 30 + 17, 6 * 10 ** 30 + 20])
        self.assertEqual(next(far.ticks(start=3 * 10 ** 30 + 2)), (3 * 10 ** 30 + 2, 1))

    def test_attributes(self):
        front, period = (1, 2), [3]
        times = Times(front, period)
        period.append(4)
        self.assertEqual((times.front, times.period), ([1, 2], [3]))
        self.assertEqual(Times([], (0,)).period, [0])

    def test_sums(self):
        rng = rng_of(251)
        for _ in range(200):
            one, other = some_times(rng, 4, 50), some_times(rng, 4, 50)
            told = one + other
            self.assertEqual(len(told.front), max(len(one.front), len(other.front)))
            self.assertEqual(len(told.period), [n for n in range(1, 99) if n % len(one.period) == n % len(other.period) == 0][0])
            self.assertEqual(numbers_of(told, 99), [a + b for a, b in zip(numbers_of(one, 99), numbers_of(other, 99))])
        self.assertEqual(Times([1], [2, 3]) + Times([5, 6], [7]), Times([6, 8], [10, 9]))
        self.assertEqual(Times([], [1] * 8) + Times([], [1] * 3), Times([], [2] * 24))

    def test_products(self):
        times = Times([1, 20], [3, 0])
        self.assertEqual([times * 0, times * 1, times * 5], [Times([0, 0], [0, 0]), times, Times([5, 100], [15, 0])])

    def test_those_that_would_be_none(self):
        times = Times([60], [1, 40])
        for other in (times, Times([], [41]), Times([0, 0, 0], [0, 61]), 1, None, [1], True):
            with self.assertRaises(BadTimes, msg=other):
                times + other
        with self.assertRaises(BadTimes):
            Times([], [0] * 5) + Times([], [0] * 7)
        with self.assertRaises(BadTimes):
            Times([], [0] * 23) + Times([], [0] * 24)
        for number in (2, 3, -1, True, None, "2", 1.0, times, 10 ** 9):
            with self.assertRaises(BadTimes, msg=number):
                times * number
        # At no tick the numbers that are too great meet.
        self.assertEqual(Times([], [100, 0]) + Times([], [0, 100]), Times([], [100, 100]))
        self.assertEqual((times.front, times.period), ([60], [1, 40]))

    def test_equality(self):
        self.assertEqual(Times([1], [2]), Times((1,), (2,)))
        self.assertNotEqual(Times([1], [1]), Times([], [1]))
        self.assertNotEqual(Times([], [1]), Times([], [1, 1]))
        self.assertFalse(Times([], [1]) == ([], [1]))

    def test_bad_times(self):
        for front, period in (([], []), (None, [1]), ([], None), ([], 1), ("1", [1]), ([], "1"), ([101], [1]), ([], [101]), ([-1], [1]), ([], [-1]), ([True], [1]),
                              ([], [None]), ([], [1.0]), ([0] * 25, [1]), ([], [0] * 25), ({1: 1}, [1]), ([], {1: 1}), (["1"], [1]), ([[1]], [1])):
            with self.assertRaises(BadTimes, msg=(front, period)):
                Times(front, period)
        self.assertEqual(len(Times([100] * 24, [100] * 24).front), 24)

    def test_no_end(self):
        for call in (iter, list, sum):
            with self.assertRaises(TypeError):
                call(Times([], [1]))
        with self.assertRaises(TypeError):
            Times([], [1]).ticks(3)


class Lags(unittest.TestCase):
    def test_tick_by_tick(self):
        rng = rng_of(252)
        for _ in range(100):
            fed, read = some_times(rng), some_times(rng)
            self.assertEqual(lags(fed, read, 60), slow_lags(fed, read, 60))
        self.assertEqual(lags(fed, read, 0), [])

    def test_greatest(self):
        rng, told = rng_of(253), {True: 0, False: 0}
        for _ in range(500):
            fed, read = some_times(rng, rng.choice([2, 5]), rng.choice([2, 6])), some_times(rng, 5, rng.choice([2, 6]))
            self.compare(fed, read, told)
        self.assertGreater(min(told.values()), 100)

    def compare(self, fed, read, told):
        found, many = greatest_lag(fed, read), long_enough(fed, read)
        told[bool(found)] += 1
        expected = slow_lags(fed, read, many)
        if found:
            self.assertIsInstance(found, Lag)
            self.assertEqual((found.number, found.tick), (max(expected), expected.index(max(expected))))
        else:
            # In each common period there is as much more to be read.
            self.assertIsInstance(found, Growing)
            self.assertEqual(expected[-1] - expected[-1 - found.period], found.growth)
            self.assertEqual(found.period, [n for n in range(1, 999) if n % len(fed.period) == n % len(read.period) == 0][0])

    def test_long_ones(self):
        rng, told = rng_of(254), {True: 0, False: 0}
        begin = time.perf_counter()
        for _ in range(60):
            fed = Times([rng.randint(0, 100) for _ in range(24)], [rng.randint(0, 99) for _ in range(rng.choice([23, 24]))])
            read = Times([rng.randint(0, 100) for _ in range(rng.randint(0, 24))], [rng.randint(0, 100) for _ in range(rng.choice([23, 24, 22]))])
            self.compare(fed, read, told)
        self.assertGreater(min(told.values()), 10)
        self.assertLess(time.perf_counter() - begin, 30)

    def test_by_hand(self):
        rows = [(([], [0]), ([], [0]), Lag(0, 0)), (([5], [0]), ([], [0]), Lag(5, 0)), (([], [1]), ([], [0]), Growing(1, 1)), (([], [1]), ([], [1]), Lag(0, 0)),
                (([], [2, 0]), ([], [1]), Lag(1, 0)), (([], [0, 2]), ([], [1]), Lag(1, 1)), (([], [3, 0]), ([], [1]), Growing(2, 1)), (([], [1, 1, 1]), ([], [0, 1]), Growing(6, 3)),
                (([], [0, 0, 3]), ([], [1]), Lag(2, 2)), (([4], [2, 0]), ([0, 0], [2, 0]), Lag(6, 1)), (([], [100] * 24), ([], [100] * 23), Lag(0, 0)),
                # The greatest lag comes in the second period alone: rows wait on from the first one.
                (([], [0, 3]), ([], [3, 0]), Lag(3, 1)), (([], [0, 5, 0]), ([0, 0, 0, 0], [1, 2, 2]), Lag(9, 4))]
        for fed, read, expected in rows:
            self.assertEqual(greatest_lag(Times(*fed), Times(*read)), expected, (fed, read))

    def test_equality(self):
        self.assertEqual(Lag(1, 2), Lag(1, 2))
        self.assertEqual(Growing(1, 2), Growing(1, 2))
        for other in (Lag(1, 3), Lag(0, 2), Growing(1, 2), Keep(1, 2, 0), None, (1, 2)):
            self.assertFalse(Lag(1, 2) == other)
        for other in (Growing(1, 3), Growing(0, 2), Lag(1, 2), None):
            self.assertFalse(Growing(1, 2) == other)
        self.assertEqual([bool(Lag(0, 0)), bool(Growing(1, 1))], [True, False])

    def test_errors(self):
        times = Times([], [1])
        for wrong in (None, [1], ([], [1]), Times, 3):
            for pair in ((wrong, times), (times, wrong), (wrong, wrong)):
                with self.assertRaises(BadTimes):
                    greatest_lag(*pair)


class Lines(unittest.TestCase):
    def expected(self, fed, read, first, many):
        found, ahead = slow_lags(fed, read, first + many), [0] + slow_lags(fed, read, first + many)
        for tick in range(first, first + many):
            sign = "*" if found[tick] > ahead[tick] else "."
            numbers = [str(tick).rjust(6), str(numbers_of(fed, tick + 1)[-1]).rjust(5), str(numbers_of(read, tick + 1)[-1]).rjust(5), str(found[tick]).rjust(7)]
            yield "".join(numbers) + " " + sign

    def test_from_any_first_tick(self):
        rng = rng_of(255)
        for _ in range(200):
            fed, read = some_times(rng), some_times(rng, 5, 5)
            first, many = rng.randint(0, 60), rng.randint(0, 30)
            self.assertEqual(list(lag_lines(fed, read, many, first=first)), list(self.expected(fed, read, first, many)))
        self.assertEqual(list(lag_lines(fed, read, 3)), list(self.expected(fed, read, 0, 3)))

    def test_far_ticks(self):
        rng = rng_of(256)
        for _ in range(30):
            fed, read = some_times(rng, 5, 6), some_times(rng, 5, 6)
            first = rng.randint(1000, 5000)
            self.assertEqual(list(lag_lines(fed, read, 5, first=first)), list(self.expected(fed, read, first, 5)))
        begin = time.perf_counter()
        self.assertEqual(list(lag_lines(Times([], [3, 0]), Times([], [1]), 2, first=2 * 10 ** 12)),
                         [f"{2 * 10 ** 12}    3    1{10 ** 12 + 2} *", f"{2 * 10 ** 12 + 1}    0    1{10 ** 12 + 1} ."])
        # It takes long until all rows of the front are read.
        fed, read = Times([100] * 24, [1] + [0] * 22), Times([], [1] + [0] * 10 + [1] + [0] * 11)
        settled = [line[6:] for line in self.expected(fed, read, 23 * 2600, 23)]
        self.assertEqual([line[-24:].lstrip() for line in settled][:3], ["0    1      0 .", "1    0      1 *", "0    0      1 ."])
        self.assertEqual([line[-19:] for line in lag_lines(fed, read, 23, first=23 * 10 ** 12)], settled)
        waiting = list(self.expected(fed, read, 23 * 1000, 23))
        self.assertEqual(list(lag_lines(fed, read, 23, first=23 * 1000)), waiting)
        self.assertLess(time.perf_counter() - begin, 10)

    def test_widths(self):
        fed, read = Times([100], [100]), Times([], [0])
        self.assertEqual(list(lag_lines(fed, read, 1, first=123456)), ["123456  100    0" + "12345700 *"])
        self.assertEqual(list(lag_lines(fed, read, 2)), ["     0  100    0    100 *", "     1  100    0    200 *"])

    def test_errors_with_the_first_line(self):
        times = Times([], [1])
        for pair in ((None, times), (times, None), ([1], [1])):
            for many in (0, 3):
                lines = lag_lines(*pair, many)
                with self.assertRaises(BadTimes):
                    next(lines)
        with self.assertRaises(TypeError):
            lag_lines(times, times, many=3)
        with self.assertRaises(TypeError):
            lag_lines(times, times, 3, 1)
        self.assertEqual(list(lag_lines(times, times, 0, first=7)), [])
