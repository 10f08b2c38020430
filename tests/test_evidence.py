"""Evidence as objects: point [1]."""

import unittest

from allbrokers import readers
from allbrokers.barring import Barring
from allbrokers.choices import Cheapest
from allbrokers.deals import Moves
from allbrokers.delays import Endless, Longest
from allbrokers.falls import Least
from allbrokers.handing import Barred, Order
from allbrokers.histories import History
from allbrokers.keeping import Rate
from allbrokers.limits import Limits
from allbrokers.lastrows import LastRows, Never
from allbrokers.machines import Machine
from allbrokers.outside import Alike, Unlike
from allbrokers.promises import Able, Broken, Farthest, Kept, Stuck
from allbrokers.squeezing import Seen, Unseen
from allbrokers.watching import Hidden, Told
from allbrokers.weaving import Unwoven, Woven

STEP = (0, "x", "a", 1)


def all_evidence():
    run, costs = [STEP], {0: [(0,)]}
    return [Least([(1,)], [run], costs), Kept(costs), Broken(run), Able({0: 0}, costs), Stuck(run, (1,)),
            Farthest(0, run, {0: 0}, costs), Longest(0, run, {0: 0}, costs), Endless(run, run), Alike([((0,), (1,))]),
            Unlike(["a"], True), Told(0, {(0, 1): 0}), Hidden(run, run, run, run), Barring([("x",)], [costs], [run]),
            Cheapest({"room": 1}, 0, [((("room", 2),), "lost", run)]),
            readers.Alike([((0,), (1,))]), readers.Apart(["a"]), Unseen([(0, ("y",), ("y",))]), Seen(["a"], ["b"]),
            LastRows(0, [[(0, 1)]]), Never(["a"], ["b"], ["a"], ["b"]), Woven([(0, 0)]), Unwoven(["a"], "a", "b", ["b"]),
            Rate(1, 2), Moves([("k", "x", "y")], "leaving", ["x"]), History([{"k": "x"}], 0, [1]), Order([("k", "x", "y")], [["x", "y"]]), Barred(["x"])]


class Evidence(unittest.TestCase):
    def test_equal_with_equal_attributes(self):
        for one, other in zip(all_evidence(), all_evidence()):
            self.assertTrue(one == other)
            self.assertFalse(one != other)

    def test_unlike_if_one_attribute_is(self):
        for one, other in zip(all_evidence(), all_evidence()):
            for name in vars(one):
                value = getattr(other, name)
                setattr(other, name, "changed")
                self.assertFalse(one == other, (one, name))
                setattr(other, name, value)
            self.assertTrue(one == other)

    def test_unlike_if_the_classes_are(self):
        for place, one in enumerate(all_evidence()):
            for at, other in enumerate(all_evidence()):
                self.assertEqual(one == other, place == at)
            for other in (None, 0, vars(one), [], Machine(1, []), Limits()):
                self.assertFalse(one == other)
                self.assertTrue(one != other)
                self.assertFalse(other == one)

    def test_attributes_are_those_that_are_told(self):
        told = ["vectors runs costs", "costs", "run", "ranks costs", "run dead", "number run ranks costs", "number run ranks costs",
                "run loop", "pairs", "trace is_first", "number ranks", "run other loop other_loop", "sets tables runs",
                "chosen price against", "pairs", "lane", "triples", "front lane", "number layers", "front other loop back", "pairs",
                "front one other back", "number tick", "moves way readers", "deals moves prices", "moves parts", "readers"]
        self.assertEqual([" ".join(vars(one)) for one in all_evidence()], told)
