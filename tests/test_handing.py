"""Handing over: point [29]."""

import time
import unittest

from allbrokers.handing import Barred, Order, hand_over
from allbrokers.readererrors import BadBounds, BadDeal
from brute import rng_of
from slowdeals import NO_CAPS, NO_DEALS, lane_names, load_of, slow_order, some_deal

TWELVE = list("abcdefghijkl")


def shuffled(rng, deal, much=True):
    """A deal of the same lanes, in which all readers have as many lanes; or one at random."""
    readers = list(deal.values())
    rng.shuffle(readers)
    return dict(zip(deal, readers)) if much else {lane: rng.choice(sorted(set(readers))) for lane in deal}


def tight_caps(rng, deal, goal, readers, more):
    """Caps that both deals are just within, some of them greater with a chance."""
    return {reader: max(load_of(deal, reader), load_of(goal, reader)) + (rng.random() < more) for reader in readers}


def slow_stuck(deal, goal, caps):
    """The stuck parts by the words of [29]."""
    unlike = [lane for lane in deal if deal[lane] != goal[lane]]
    parts = [{deal[lane], goal[lane]} for lane in unlike]
    found = []
    for part in parts:
        while True:
            more = set(part).union(*[other for other in parts if other & part])
            if more == part:
                break
            part = more
        if sorted(part) not in found:
            found.append(sorted(part))
    return sorted(part for part in found if all(load_of(deal, reader) == caps[reader] and sum(goal[lane] == reader for lane in unlike) ==
                                                sum(deal[lane] == reader for lane in unlike) for reader in part))


class HandOver(unittest.TestCase):
    def test_example(self):
        told = hand_over({"k": "x", "l": "y"}, {"k": "y", "l": "x"}, {"x": 1, "y": 1, "z": 1})
        barred = hand_over({"k": "x", "l": "y"}, {"k": "y", "l": "x"}, {"x": 1, "y": 1})
        self.assertEqual([len(told.moves), told.parts, bool(barred)], [3, [["x", "y"]], False])
        self.assertEqual(barred, Barred(["x", "y"]))

    def test_by_trying_all_orders(self):
        rng, stuck, barred = rng_of(29), {0: 0, 1: 0, 2: 0}, 0
        for turn in range(2000):
            readers = list("vwxyz")[:rng.randint(1, 5)]
            deal = some_deal(rng, rng.randint(0, 5 if len(readers) > 3 else 6), readers)
            if turn % 3 == 0:
                deal = dict(zip(deal, readers * 6))
            goal = shuffled(rng, deal, turn % 4 > 0) if deal else {}
            if turn % 5 == 0:
                deal, readers = dict(zip("klmn", "vwxy")), list("vwxyz")
                goal = shuffled(rng, deal)
            caps = tight_caps(rng, deal, goal, readers, rng.choice([0, 0.1, 0.3]))
            if turn % 5 == 0:
                caps["z"] = 1
            found = hand_over(deal, goal, caps)
            self.assertTrue(found.shows(deal, goal, caps))
            expected = slow_order(deal, goal, caps)
            if expected is None:
                barred += 1
                self.assertEqual(found, Barred(sorted(caps)))
                self.assertTrue(all(load_of(deal, reader) == cap for reader, cap in caps.items()) and deal != goal)
                continue
            self.assertEqual(len(found.moves), expected, (deal, goal, caps))
            self.assertEqual(sorted(found.parts), slow_stuck(deal, goal, caps))
            stuck[len(found.parts)] += 1
            self.check_moves(deal, goal, caps, found.moves)
        self.assertGreater(min(stuck.values()), 5)
        self.assertGreater(barred, 50)

    def check_moves(self, deal, goal, caps, moves):
        now = dict(deal)
        for lane, reader, other in moves:
            self.assertEqual(now[lane], reader)
            self.assertLess(load_of(now, other), caps[other])
            now[lane] = other
        self.assertEqual(now, goal)

    def test_room_that_a_wrong_order_would_take_away(self):
        # The lanes of x and y must change places before the one of z takes the room of x.
        deal, goal = {"k": "x", "l": "y", "m": "z"}, {"k": "y", "l": "x", "m": "x"}
        for caps in ({"x": 2, "y": 1, "z": 1}, {"z": 1, "y": 1, "x": 2}):
            found = hand_over(deal, goal, caps)
            self.assertEqual((len(found.moves), found.parts), (3, []))
            self.check_moves(deal, goal, caps, found.moves)

    def test_several_stuck_parts(self):
        deal = dict(zip("klmnop", "uvwxyz"))
        goal = dict(zip("klmnop", "vuxwzy"))
        caps = {reader: 1 for reader in "tuvwxyz"}
        found = hand_over(deal, goal, caps)
        self.assertEqual((len(found.moves), sorted(found.parts)), (9, [["u", "v"], ["w", "x"], ["y", "z"]]))
        self.check_moves(deal, goal, caps, found.moves)
        # A part with room: it takes the room away that another part needs, and gives it to another reader.
        deal, goal = {**deal, "q": "t"}, {**goal, "q": "s"}
        found = hand_over(deal, goal, {**caps, "s": 1})
        self.assertEqual((len(found.moves), len(found.parts)), (10, 3))
        self.check_moves(deal, goal, {**caps, "s": 1}, found.moves)

    def test_nothing_to_do(self):
        for deal in ({}, {"k": "x"}, {"k": "x", "l": "y"}):
            for caps in ({"x": 1, "y": 1}, {"x": 60, "y": 60, "z": 0}):
                self.assertEqual(hand_over(deal, dict(deal), caps), Order([], []))
                self.assertFalse(Barred(sorted(caps)).shows(deal, deal, caps))

    def test_barred_just_if_all_readers_are_full(self):
        deal, goal = {"k": "x", "l": "y"}, {"k": "y", "l": "x"}
        self.assertFalse(hand_over(deal, goal, {"x": 1, "y": 1, "z": 0}))
        self.assertEqual(hand_over(deal, goal, {"y": 1, "z": 0, "x": 1}).readers, ["x", "y", "z"])
        for caps in ({"x": 2, "y": 1}, {"x": 1, "y": 2}, {"x": 1, "y": 1, "z": 1}):
            self.assertTrue(hand_over(deal, goal, caps))

    def test_large(self):
        begin = time.perf_counter()
        rng = rng_of(291)
        parts = 0
        for turn in range(150):
            deal = dict(zip(lane_names(60), rng.sample(TWELVE * 5, 60))) if turn % 2 else some_deal(rng, 60, TWELVE)
            goal = shuffled(rng, deal)
            if turn % 3 == 0:
                # Lanes go round within threes of readers.
                goal = {lane: TWELVE[(TWELVE.index(reader) // 3) * 3 + (TWELVE.index(reader) + 1) % 3] for lane, reader in deal.items()}
            caps = tight_caps(rng, deal, goal, TWELVE, 0)
            caps[rng.choice(TWELVE)] += 1
            found = hand_over(deal, goal, caps)
            self.assertTrue(found.shows(deal, goal, caps))
            self.check_moves(deal, goal, caps, found.moves)
            self.assertEqual(sorted(found.parts), slow_stuck(deal, goal, caps))
            self.assertEqual(len(found.moves), sum(deal[lane] != goal[lane] for lane in deal) + len(found.parts))
            parts += len(found.parts)
        self.assertGreater(parts, 20)
        self.assertLess(time.perf_counter() - begin, 30)

    def test_spoilt_orders(self):
        deal, goal, caps = {"k": "x", "l": "y"}, {"k": "y", "l": "x"}, {"x": 1, "y": 1, "z": 1, "w": 0}
        good = [("k", "x", "z"), ("l", "y", "x"), ("k", "z", "y")]
        for parts in ([["x", "y"]], [["y", "x"]], (("x", "y"),)):
            self.assertTrue(Order(tuple(good), parts).shows(deal, goal, caps))
        for parts in ([], [["x"]], [["x", "y"], ["x", "y"]], [["x", "y", "z"]], [["x", "y", "y"]], [["x", "y"], []], [["x"], ["y"]], [["x", "z"]]):
            self.assertFalse(Order(good, parts).shows(deal, goal, caps), parts)
        for moves in ([], good[:2], good[::-1], good + [("k", "y", "z")], [("k", "x", "y"), ("l", "y", "x")], [("k", "x", "y"), ("l", "y", "z"), ("l", "z", "x")],
                      [("k", "x", "w"), ("l", "y", "x"), ("k", "w", "y")], [("k", "x", "v"), ("l", "y", "x"), ("k", "v", "y")], [("k", "y", "z"), ("l", "y", "x"), ("k", "z", "y")],
                      [("m", "x", "z"), ("l", "y", "x"), ("k", "z", "y")], [("k", "x", "z"), ("l", "y", "x"), ("k", "x", "y")], [("k", "x", "z"), ("l", "y", "x"), ("k", "z", "z")]):
            self.assertFalse(Order(moves, [["x", "y"]]).shows(deal, goal, caps), moves)
        more = {"x": 2, "y": 2, "z": 1}
        self.assertTrue(Order([("k", "x", "y"), ("l", "y", "x")], []).shows(deal, goal, more))
        self.assertFalse(Order(good, []).shows(deal, goal, more))
        self.assertFalse(Order(good, [["x", "y"]]).shows(deal, goal, more))
        self.assertFalse(Order([], []).shows(deal, goal, {"x": 1, "y": 1}))
        self.assertFalse(Order([], [["x", "y"]]).shows(deal, goal, {"x": 1, "y": 1}))

    def test_orders_beyond_a_cap(self):
        # Behind the first move the reader x has room for one lane, not for two.
        deal, goal = {"k": "x", "n": "x", "l": "y", "m": "z"}, {"k": "w", "n": "v", "l": "x", "m": "x"}
        caps = {"x": 2, "y": 1, "z": 1, "w": 1, "v": 1}
        moves = [("k", "x", "w"), ("l", "y", "x"), ("n", "x", "v"), ("m", "z", "x")]
        self.assertTrue(Order(moves, []).shows(deal, goal, caps))
        self.assertFalse(Order([moves[0], moves[1], moves[3], moves[2]], []).shows(deal, goal, caps))
        self.assertFalse(Order(moves[1:2] + moves[:1] + moves[2:], []).shows(deal, goal, caps))

    def test_order_of_parts(self):
        deal = dict(zip("klmn", "uvwx"))
        goal = dict(zip("klmn", "vuxw"))
        caps = {reader: 1 for reader in "tuvwx"}
        moves = hand_over(deal, goal, caps).moves
        self.assertTrue(Order(moves, [["x", "w"], ["v", "u"]]).shows(deal, goal, caps))
        self.assertTrue(Order(moves, [["u", "v"], ["w", "x"]]).shows(deal, goal, caps))
        self.assertFalse(Order(moves, [["u", "w"], ["v", "x"]]).shows(deal, goal, caps))

    def test_spoilt_bars(self):
        deal, goal, caps = {"k": "x", "l": "y"}, {"k": "y", "l": "x"}, {"x": 1, "y": 1, "z": 0}
        self.assertTrue(Barred(("x", "y", "z")).shows(deal, goal, caps))
        for readers in ([], ["x", "y"], ["x", "z", "y"], ["x", "y", "z", "z"], ["w", "x", "y", "z"]):
            self.assertFalse(Barred(readers).shows(deal, goal, caps), readers)
        self.assertFalse(Barred(["x", "y", "z"]).shows(deal, goal, {**caps, "z": 1}))
        self.assertFalse(Barred(["x", "y", "z"]).shows(deal, deal, caps))
        self.assertEqual((Barred(("x",)).readers, Order((), (("x", "y"),)).parts, bool(Order([], []))), (["x"], [["x", "y"]], True))

    def test_errors(self):
        good, caps = {"k": "x", "l": "y"}, {"x": 2, "y": 2}
        for call in (hand_over, Order([], []).shows, Barred([]).shows):
            for wrong in NO_DEALS:
                for pair in ((wrong, good), (good, wrong)):
                    with self.assertRaises(BadDeal, msg=wrong):
                        call(*pair, None)
            for other in ({}, {"k": "x"}, {**good, "m": "x"}, {"k": "x", "m": "y"}):
                for pair in ((other, good), (good, other)):
                    with self.assertRaises(BadDeal, msg=other):
                        call(*pair, None)
            for wrong in NO_CAPS + [{"x": 2}, {"x": 2, "z": 2}, {"x": 0, "y": 2}, {"x": 2, "y": 0}]:
                with self.assertRaises(BadBounds, msg=wrong):
                    call(good, {"l": "x", "k": "y"}, wrong)
            with self.assertRaises(BadBounds):
                call(good, {"k": "y", "l": "y"}, {"x": 2, "y": 1})
            with self.assertRaises(BadBounds):
                call({"k": "y", "l": "y"}, good, {"x": 2, "y": 1})
            with self.assertRaises(BadBounds):
                call(good, {"k": "x", "l": "z"}, caps)
