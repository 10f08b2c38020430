"""Histories of deals: point [28]."""

import itertools
import time
import unittest

from allbrokers.deals import least_moves
from allbrokers.histories import History, least_history
from allbrokers.readererrors import BadBounds, BadDeal, NoDeal
from brute import rng_of
from slowdeals import NO_BOUNDS, NO_DEALS, fitting_bounds, is_in_bounds, lane_names, load_of, names_in, slow_history, some_bounds, some_deal

TWELVE = list("abcdefghijkl")


def row_cost(rows, first, prices):
    """The cost of a row of numbers of lanes, by the words of [28]."""
    total = 0
    for before, now, price in zip([first] + rows, rows, prices):
        total += (before - now if now < before else 0) - price * (before - now)
    return total


def slow_least_cost(deal, history, prices, name):
    """The least cost of a reader, by trying all rows."""
    ranges = [range(bounds.get(name, (0, 0))[0], min(len(deal), bounds.get(name, (0, 0))[1]) + 1) for bounds in history]
    return min(row_cost(list(rows), load_of(deal, name), prices) for rows in itertools.product(*ranges))


def long_least_cost(deal, history, prices, name):
    """The same from the last tick back, for histories that are too long for trying all rows."""
    cheapest = [0] * (len(deal) + 1)
    for bounds, price in zip(history[::-1], prices[::-1]):
        low, high = bounds.get(name, (0, 0))
        numbers = range(low, min(high, len(deal)) + 1)
        cheapest = [min([(before - now) * ((before > now) - price) + cheapest[now] for now in numbers]) for before in range(len(deal) + 1)]
    return cheapest[load_of(deal, name)]


def some_history(rng, ticks, many, readers, fits=True):
    return [fitting_bounds(rng, many, readers) if fits else some_bounds(rng, readers, 4) for _ in range(ticks)]


class LeastHistory(unittest.TestCase):
    def test_example(self):
        history = [{"x": (0, 1), "y": (0, 2)}, {"x": (2, 2), "y": (0, 2)}]
        told = least_history({"k": "x", "l": "x"}, history)
        self.assertEqual([told.moves, told.shows({"k": "x", "l": "x"}, history)], [2, True])

    def test_by_trying_all_rows_of_loads(self):
        rng, refused, ahead = rng_of(28), 0, 0
        for turn in range(700):
            readers = list("uvwx")[:rng.randint(1, 4)]
            deal = some_deal(rng, rng.randint(0, 5), readers)
            history = some_history(rng, rng.randint(1, 4), len(deal), readers, turn % 3 > 0)
            moves, tick = slow_history(deal, history)
            if moves is None:
                refused += 1
                with self.assertRaises(NoDeal) as caught:
                    least_history(deal, history)
                self.assertEqual(caught.exception.tick, tick)
                continue
            found = least_history(deal, rng.choice([history, tuple(history)]))
            self.assertEqual(found.moves, moves, (deal, history))
            self.check(deal, history, found)
            ahead += moves < self.moves_tick_by_tick(deal, history)
        self.assertGreater(refused, 50)
        # Not only one tick after the other is looked at.
        self.assertGreater(ahead, 5)

    def moves_tick_by_tick(self, deal, history):
        total = 0
        for bounds in history:
            told = least_moves(deal, bounds).moves
            deal = {**deal, **{lane: goal for lane, _, goal in told}}
            total += len(told)
        return total

    def check(self, deal, history, found, is_small=True):
        self.assertTrue(found.shows(deal, history))
        self.assertEqual((len(found.deals), len(found.prices)), (len(history), len(history)))
        changed = 0
        for before, now, bounds in zip([deal] + found.deals, found.deals, history):
            self.assertEqual(set(now), set(deal))
            self.assertTrue(is_in_bounds(now, bounds))
            changed += sum(before[lane] != now[lane] for lane in deal)
        self.assertEqual(changed, found.moves)
        self.assertTrue(all(type(price) is int for price in found.prices))
        least = slow_least_cost if is_small else long_least_cost
        self.assertEqual(sum(least(deal, history, found.prices, name) for name in names_in(deal, *history)), found.moves)

    def test_no_prices_bar_more(self):
        rng = rng_of(281)
        for _ in range(60):
            deal = some_deal(rng, rng.randint(1, 4), list("xyz"))
            history = some_history(rng, 2, len(deal), list("xyz"))
            found = least_history(deal, history)
            for prices in itertools.product(range(-2, 4), repeat=2):
                total = sum(slow_least_cost(deal, history, prices, name) for name in names_in(deal, *history))
                self.assertLessEqual(total, found.moves)
                self.assertEqual(History(found.deals, found.moves, prices).shows(deal, history), total == found.moves)

    def test_one_tick_is_as_least_moves(self):
        rng = rng_of(282)
        for _ in range(100):
            deal = some_deal(rng, rng.randint(0, 20))
            bounds = fitting_bounds(rng, len(deal))
            self.assertEqual(least_history(deal, [bounds]).moves, len(least_moves(deal, bounds).moves))

    def test_lanes_wait_where_they_can(self):
        # The reader x is gone for one tick; who comes back to it could wait.
        deal = {"k": "x", "l": "x", "m": "y"}
        history = [{"y": (0, 3), "z": (0, 3)}, {"x": (1, 2), "y": (0, 3), "z": (0, 3)}, {"x": (2, 2), "y": (0, 1), "z": (0, 1)}]
        found = least_history(deal, history)
        self.assertEqual(found.moves, 4)
        self.check(deal, history, found)
        self.assertEqual(least_history({}, [{"x": (0, 3)}] * 12).moves, 0)
        self.assertEqual(least_history({}, [{"x": (0, 0)}]).deals, [{}])
        self.assertEqual(least_history({"k": "x"}, [{"y": (1, 1)}, {"x": (1, 1)}] * 6).moves, 12)

    def test_long_ones(self):
        begin = time.perf_counter()
        rng = rng_of(283)
        for turn in range(12):
            readers = TWELVE if turn % 2 else lane_names(60)
            deal = some_deal(rng, 60, readers)
            history = some_history(rng, 12, 60, readers)
            found = least_history(deal, history)
            self.check(deal, history, found, False)
            self.assertLessEqual(found.moves, self.moves_tick_by_tick(deal, history))
        tight = [{reader: (5, 5) for reader in TWELVE}, {reader: (0, 60) for reader in TWELVE[:2]}] * 6
        deal = some_deal(rng, 60, TWELVE)
        found = least_history(deal, tight)
        self.assertEqual(found.moves, sum(max(0, load_of(deal, reader) - 5) for reader in TWELVE) + 11 * 50)
        self.check(deal, tight, found, False)
        self.assertLess(time.perf_counter() - begin, 60)

    def test_back_and_forth(self):
        # From five lanes each to two readers alone, and back again, six times: 50 lanes move each time.
        deal = dict(zip(lane_names(60), TWELVE * 5))
        history = [{reader: (0, 60) for reader in TWELVE[:2]}, {reader: (5, 5) for reader in TWELVE}] * 6
        found = least_history(deal, history)
        self.assertEqual(found.moves, 600)
        self.check(deal, history, found, False)

    def test_no_deal(self):
        deal = {"k": "x", "l": "x"}
        good, few, many = {"x": (0, 2)}, {"x": (0, 1)}, {"x": (2, 2), "y": (1, 1)}
        for history, tick in (([few], 0), ([good, few], 1), ([good, good, many, few], 2), ([many, good], 0), ([good] * 11 + [few], 11)):
            for call in (least_history, History([], 0, []).shows):
                with self.assertRaises(NoDeal) as caught:
                    call(deal, history)
                self.assertEqual(caught.exception.tick, tick)

    def test_spoilt(self):
        deal, history = {"k": "x", "l": "x"}, [{"x": (0, 1), "y": (0, 2)}, {"x": (2, 2), "y": (0, 2)}]
        found = least_history(deal, history)
        deals, prices = found.deals, found.prices
        self.assertTrue(History(tuple(deals), 2, tuple(prices)).shows(deal, history))
        other = [{"k": "y", "l": "x"}, {"k": "x", "l": "x"}]
        self.assertTrue(History(other, 2, prices).shows(deal, history))
        self.assertTrue(History([{"l": "y", "k": "x"}, {"l": "x", "k": "x"}], 2, prices).shows(deal, history))
        for told, moves in ((deals[:1], 1), ([], 0), (deals + deals[1:], 2), (deals, 1), (deals, 3), (deals, 0), (deals, -2), ([deal, deal], 0), ([deal, deal], 2),
                            ([{"k": "y", "l": "y"}, deal], 4), ([{"k": "y", "l": "y"}, deal], 2), ([{"k": "y"}, deal], 2), ([{"k": "y", "l": "x", "m": "y"}, deal], 2),
                            ([{"k": "y", "m": "x"}, deal], 2), ([{"k": "z", "l": "x"}, deal], 2), ([other[0], {}], 2), ([other[0], other[0]], 1)):
            self.assertFalse(History(told, moves, prices).shows(deal, history), (told, moves))
        for wrong in ([], prices[:1], prices + [0], [0, 0], [1, 0], [0, 1], [5, -5], [10 ** 20, 10 ** 20], [-1, -1]):
            total = sum(slow_least_cost(deal, history, wrong, name) for name in "xy") if len(wrong) == 2 else None
            self.assertEqual(History(deals, 2, wrong).shows(deal, history), total == 2, wrong)
        self.assertFalse(found.shows(deal, history[:1]))
        self.assertFalse(found.shows({"k": "x", "l": "y"}, history))

    def test_attributes(self):
        deals = [{"k": "x"}]
        found = History(deals, 0, (1,))
        deals[0]["k"] = "y"
        self.assertEqual((found.deals, found.moves, found.prices), ([{"k": "x"}], 0, [1]))

    def test_errors(self):
        deal, good = {lane: "x" for lane in "klmn"}, {"x": (0, 60)}
        for call in (least_history, History([], 0, []).shows):
            for wrong in NO_DEALS:
                with self.assertRaises(BadDeal, msg=wrong):
                    call(wrong, None)
            for bounds in NO_BOUNDS:
                for history in ([bounds], [good, bounds], [{"x": (0, 1)}, bounds]):
                    with self.assertRaises(BadBounds, msg=history):
                        call(deal, history)
            for history in (None, [], (), good, "history", [good] * 13, [None], {0: good}):
                with self.assertRaises(BadBounds, msg=history):
                    call(deal, history)
