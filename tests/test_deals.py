"""Moves of lanes: point [27]."""

import time
import unittest

from allbrokers.deals import Moves, least_moves
from allbrokers.readererrors import BadBounds, BadDeal, NoDeal
from brute import rng_of
from slowdeals import NO_BOUNDS, NO_DEALS, all_rows, changes_between, fitting_bounds, is_in_bounds, lane_names, load_of, names_in, some_bounds, some_deal

TWELVE = list("abcdefghijkl")


class LeastMoves(unittest.TestCase):
    def test_example(self):
        told = least_moves({"k": "x", "l": "x", "m": "y"}, {"x": (0, 1), "z": (0, 2)})
        self.assertEqual([len(told.moves), told.way], [2, "leaving"])

    def test_by_trying_all_rows_of_loads(self):
        rng, ways, refused = rng_of(27), {"leaving": 0, "coming": 0}, 0
        for turn in range(1500):
            readers = list("uvwxyz")[:rng.randint(1, 5)]
            deal = some_deal(rng, rng.randint(0, 7), readers)
            bounds = fitting_bounds(rng, len(deal), readers) if turn % 2 else some_bounds(rng, readers, 4)
            names = names_in(deal, bounds)
            rows = all_rows(names, bounds, len(deal))
            if not rows:
                refused += 1
                with self.assertRaises(NoDeal) as caught:
                    least_moves(deal, bounds)
                self.assertEqual(caught.exception.tick, 0)
                continue
            found = least_moves(deal, bounds)
            ways[found.way] += len(found.moves) > 0
            before = [load_of(deal, name) for name in names]
            self.assertEqual(len(found.moves), min(changes_between(before, row) for row in rows))
            self.check(deal, bounds, found)
        self.assertGreater(min(ways.values()), 50)
        self.assertGreater(refused, 50)

    def check(self, deal, bounds, found):
        self.assertTrue(found.shows(deal, bounds))
        behind = dict(deal)
        for lane, reader, goal in found.moves:
            self.assertEqual(deal[lane], reader)
            self.assertEqual(behind[lane], reader)
            self.assertNotEqual(goal, reader)
            behind[lane] = goal
        self.assertTrue(is_in_bounds(behind, bounds))
        many = [load_of(deal, reader) - bounds.get(reader, (0, 0))[1] if found.way == "leaving" else bounds.get(reader, (0, 0))[0] - load_of(deal, reader)
                for reader in found.readers]
        self.assertEqual(sum(max(0, number) for number in many), len(found.moves))
        self.assertEqual(len(set(found.readers)), len(found.readers))

    def test_readers_gone_and_new(self):
        deal = {"k": "x", "l": "x", "m": "y"}
        rows = [({"x": (0, 60), "y": (0, 60)}, 0), ({"z": (3, 3)}, 3), ({"x": (3, 3)}, 1), ({"x": (0, 60)}, 1), ({"y": (0, 3)}, 2), ({"x": (2, 2), "z": (1, 1)}, 1),
                ({"x": (0, 2), "y": (0, 1), "z": (1, 2)}, 1), ({"x": (1, 1), "y": (1, 1), "z": (1, 1)}, 1), ({"x": (0, 1), "y": (2, 2)}, 1), ({"x": (0, 0), "z": (0, 60)}, 3)]
        for bounds, many in rows:
            found = least_moves(deal, bounds)
            self.assertEqual(len(found.moves), many, bounds)
            self.check(deal, bounds, found)
        self.assertEqual(least_moves({}, {"x": (0, 5)}).moves, [])
        self.assertEqual(least_moves({}, {"x": (0, 0)}), Moves([], "leaving", []))

    def test_large(self):
        begin = time.perf_counter()
        rng = rng_of(271)
        for turn in range(200):
            # Up to 60 readers are gone.
            deal = some_deal(rng, 60, TWELVE if turn % 2 else lane_names(60))
            bounds = fitting_bounds(rng, 60, TWELVE)
            found = least_moves(deal, bounds)
            self.check(deal, bounds, found)
            leaving = sum(max(0, load_of(deal, name) - bounds.get(name, (0, 0))[1]) for name in names_in(deal, bounds))
            coming = sum(max(0, bounds[name][0] - load_of(deal, name)) for name in bounds)
            self.assertEqual(len(found.moves), max(leaving, coming))
        self.assertLess(time.perf_counter() - begin, 30)

    def test_no_deal(self):
        deal = {"k": "x", "l": "x", "m": "y"}
        for bounds in ({"x": (0, 2)}, {"x": (4, 5)}, {"x": (2, 5), "y": (2, 5)}, {"x": (0, 1), "y": (1, 1)}):
            for call in (least_moves, Moves([], "leaving", []).shows):
                with self.assertRaises(NoDeal) as caught:
                    call(deal, bounds)
                self.assertEqual(caught.exception.tick, 0)
        with self.assertRaises(NoDeal):
            least_moves({}, {"x": (1, 1)})

    def test_spoilt(self):
        deal, bounds = {"k": "x", "l": "x", "m": "y"}, {"x": (0, 1), "z": (0, 2)}
        good = [("k", "x", "z"), ("m", "y", "z")]
        self.assertTrue(Moves(good, "leaving", ["x", "y"]).shows(deal, bounds))
        self.assertTrue(Moves(tuple(good[::-1]), "leaving", ("y", "z", "x")).shows(deal, bounds))
        self.assertTrue(Moves([("l", "x", "z"), ("m", "y", "z")], "leaving", ["x", "y"]).shows(deal, bounds))
        self.assertTrue(Moves([("k", "x", "z"), ("m", "y", "z")], "leaving", ["y", "x"]).shows(deal, bounds))
        for way, readers in (("coming", ["x", "y"]), ("leaving", ["x"]), ("leaving", []), ("leaving", ["x", "x"]), ("leaving", ["x", "y", "y"]), ("leaving", ["x", "y", "w"]),
                             ("coming", ["z"]), ("going", ["x", "y"]), ("", ["x", "y"]), ("leaving", ["y", "z"])):
            self.assertFalse(Moves(good, way, readers).shows(deal, bounds), (way, readers))
        for moves in ([], good[:1], good + [("l", "x", "z")], good + [("k", "z", "x")], [("k", "x", "z"), ("k", "x", "z")], [("k", "x", "y"), ("m", "y", "z")],
                      [("k", "x", "z"), ("m", "x", "z")], [("k", "x", "z"), ("m", "y", "w")], [("k", "x", "z"), ("n", "y", "z")], [("k", "x", "z"), ("l", "x", "z")],
                      [("k", "x", "x"), ("m", "y", "z")], [("k", "x", "z"), ("k", "z", "x"), ("m", "y", "z")]):
            self.assertFalse(Moves(moves, "leaving", ["x", "y"]).shows(deal, bounds), moves)
        # More moves than are needed, which come to a deal within the bounds.
        self.assertFalse(Moves([("k", "x", "y"), ("l", "x", "y")], "leaving", ["x"]).shows(deal, {"x": (0, 1), "y": (0, 3)}))
        self.assertTrue(Moves([("k", "x", "y")], "leaving", ["x"]).shows(deal, {"x": (0, 1), "y": (0, 3)}))
        self.assertTrue(Moves([("k", "x", "z")], "coming", ["z"]).shows(deal, {"x": (0, 2), "y": (0, 1), "z": (1, 1)}))
        self.assertFalse(Moves([("k", "x", "z")], "coming", ["x", "y"]).shows(deal, {"x": (0, 2), "y": (0, 1), "z": (1, 1)}))

    def test_attributes(self):
        found = Moves((("k", "x", "y"),), "coming", ("y",))
        self.assertEqual((found.moves, found.way, found.readers), ([("k", "x", "y")], "coming", ["y"]))

    def test_errors(self):
        for call in (least_moves, Moves([], "leaving", []).shows):
            for deal in NO_DEALS:
                with self.assertRaises(BadDeal, msg=deal):
                    call(deal, None)
            for bounds in NO_BOUNDS:
                with self.assertRaises(BadBounds, msg=bounds):
                    call({lane: "x" for lane in "klmn"}, bounds)
