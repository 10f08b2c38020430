"""Keeping: point [26]."""

import time
import unittest

from allbrokers.keeping import Keep, Rate, least_keeping, least_rate
from allbrokers.readererrors import BadTimes
from allbrokers.times import Growing, Lag, Times, greatest_lag
from brute import rng_of
from test_times import long_enough, numbers_of, slow_lags, some_times


def slow_waiting(fed, read, many):
    """How many rows wait at the first ticks, behind feeding and before reading."""
    ahead = [0] + slow_lags(fed, read, many)
    return [lag + number for lag, number in zip(ahead, numbers_of(fed, many))]


class Keeping(unittest.TestCase):
    def test_example(self):
        told = least_keeping(Times([], [2, 0]), [Times([], [1]), Times([0, 0], [0, 2])])
        self.assertEqual([told.rows, told.tick, told.group, least_rate(Times([], [2, 0]), 1).number], [4, 2, 1, 1])

    def test_at_random(self):
        rng, told = rng_of(26), {True: 0, False: 0}
        for _ in range(500):
            fed, groups = some_times(rng, 4, 3), [some_times(rng, 4, 6) for _ in range(rng.randint(1, 4))]
            found = least_keeping(fed, rng.choice([groups, tuple(groups)]))
            told[bool(found)] += 1
            many = max(long_enough(fed, read) for read in groups)
            growing = [greatest_lag(fed, read) for read in groups if not greatest_lag(fed, read)]
            if growing:
                self.assertEqual(found, growing[0])
                continue
            rows = [(-number, tick, place) for place, read in enumerate(groups) for tick, number in enumerate(slow_waiting(fed, read, many))]
            self.assertEqual((-found.rows, found.tick, found.group), min(rows))
        self.assertGreater(min(told.values()), 50)

    def test_by_hand(self):
        none, one, two = Times([], [0]), Times([], [1]), Times([], [2, 0])
        rows = [((none, [none]), Keep(0, 0, 0)), ((one, [one]), Keep(1, 0, 0)), ((two, [one]), Keep(2, 0, 0)), ((one, [none]), Growing(1, 1)), ((Times([7], [0]), [none]), Keep(7, 0, 0)),
                ((two, [Times([0], [1]), one, Times([0], [1])]), Keep(3, 2, 0)), ((one, [one, none, two]), Growing(1, 1)),
                ((two, [one, Times([], [1, 0]), none]), Growing(2, 1)), ((one, [Times([], [1]), Times([], [0, 2])]), Keep(2, 1, 1)),
                # At the same tick the first group is told.
                ((one, [Times([], [0, 2]), Times([], [0, 3])]), Keep(2, 1, 0))]
        for (fed, groups), expected in rows:
            self.assertEqual(least_keeping(fed, groups), expected, (vars(fed), [vars(read) for read in groups]))

    def test_long_ones(self):
        rng = rng_of(261)
        begin = time.perf_counter()
        for _ in range(20):
            fed = Times([rng.randint(0, 100) for _ in range(24)], [rng.randint(0, 90) for _ in range(23)])
            groups = [Times([0] * rng.randint(0, 24), [rng.randint(20, 100) for _ in range(24)]) for _ in range(5)]
            found = least_keeping(fed, groups)
            if found:
                rows = [(-number, tick, place) for place, read in enumerate(groups) for tick, number in enumerate(slow_waiting(fed, read, 24 * 23 * 5))]
                self.assertEqual((-found.rows, found.tick, found.group), min(rows))
        self.assertLess(time.perf_counter() - begin, 30)

    def test_equality(self):
        self.assertEqual(Keep(1, 2, 3), Keep(1, 2, 3))
        for other in (Keep(0, 2, 3), Keep(1, 0, 3), Keep(1, 2, 0), Lag(1, 2), Growing(1, 2), None):
            self.assertFalse(Keep(1, 2, 3) == other)
        self.assertTrue(Keep(0, 0, 0))

    def test_errors(self):
        times = Times([], [1])
        for fed, groups in ((None, [times]), (times, []), (times, ()), (times, None), (times, times), (times, [None]), (times, [times, [1]]), (times, {times.at(0): times}),
                            (times, "a"), ([1], []), (times, [Times([], [0]), None])):
            with self.assertRaises(BadTimes):
                least_keeping(fed, groups)


class Rates(unittest.TestCase):
    def slow_rate(self, fed, most):
        """The least number and the tick that bars less, by trying all numbers for long."""
        before = None
        for number in range(101):
            found = slow_lags(fed, Times([], [number]), 1200 * len(fed.period) + len(fed.front))
            if max(found) <= most:
                return number, before
            before = [tick for tick, lag in enumerate(found) if lag > most][0]

    def test_at_random(self):
        rng = rng_of(262)
        for _ in range(60):
            fed, most = some_times(rng, 4, 5), rng.choice([0, 1, 2, 3, 5, 10, 30])
            found = least_rate(fed, most)
            self.assertEqual((found.number, found.tick), self.slow_rate(fed, most))
            self.assertTrue(found.shows(fed, most))
            self.assertTrue(Rate(found.number, found.tick).shows(fed, most))

    def test_great_bounds(self):
        begin = time.perf_counter()
        rng = rng_of(263)
        for _ in range(10):
            fed = Times([rng.randint(0, 100) for _ in range(24)], [rng.randint(0, 100) for _ in range(24)])
            for most in (0, 100, 999, 1000):
                found = least_rate(fed, most)
                self.assertTrue(found.shows(fed, most))
                self.assertLessEqual(max(slow_lags(fed, Times([], [found.number]), 3000)), most)
        self.assertEqual(least_rate(Times([], [1] + [0] * 23), 1000), Rate(1, 24000))
        self.assertEqual(least_rate(Times([], [100]), 1000), Rate(100, 1000))
        self.assertEqual(least_rate(Times([100] * 24, [0]), 1000), Rate(59, 24 - 1))
        self.assertEqual(least_rate(Times([100] * 10, [0]), 1000), Rate(0, None))
        self.assertEqual(least_rate(Times([100], [0]), 0), Rate(100, 0))
        self.assertLess(time.perf_counter() - begin, 30)

    def test_spoilt(self):
        fed = Times([], [2, 0])
        self.assertEqual(least_rate(fed, 1), Rate(1, 0))
        self.assertTrue(Rate(1, 0).shows(fed, 1))
        # By no rows all later ticks are beyond the bound, too.
        self.assertTrue(Rate(1, 1).shows(fed, 1))
        self.assertTrue(Rate(1, 99999).shows(fed, 1))
        for number, tick in ((0, 0), (0, None), (1, None), (1, -1), (2, 0), (2, 1), (2, None), (-1, 0), (-1, None), (101, 0), (1000, 5), (10 ** 20, 0), (-(10 ** 20), 0)):
            self.assertFalse(Rate(number, tick).shows(fed, 1), (number, tick))
        none = Times([], [0])
        self.assertTrue(Rate(0, None).shows(none, 0))
        for number, tick in ((0, 0), (1, 0), (1, None), (-1, None), (0, 5)):
            self.assertFalse(Rate(number, tick).shows(none, 0), (number, tick))
        late = Times([], [0, 0, 3])
        self.assertEqual(least_rate(late, 1), Rate(2, 2))
        self.assertEqual([Rate(2, tick).shows(late, 1) for tick in range(6)], [False, False, True, False, False, True])

    def test_errors(self):
        times = Times([], [1])
        for call in (least_rate, Rate(1, 0).shows):
            for fed, most in ((None, 1), ([1], 1), (times, -1), (times, 1001), (times, None), (times, True), (times, "1"), (times, 1.0), (Times, 0)):
                with self.assertRaises(BadTimes, msg=(fed, most)):
                    call(fed, most)
