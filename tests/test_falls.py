"""Falls, tables and least vectors: points [3] and [4]."""

import unittest

from allbrokers.errors import BadAllowances, BadRun, BadStates
from allbrokers.falls import Least, falls_of, holds_for, is_within, least_falls, least_of
from allbrokers.limits import Limits
from allbrokers.machines import Machine, last_state
from brute import ends_within, least_vectors, rng_of, some_allowances, some_machine, some_states

TWO_WAYS = Machine(3, [(0, "x", "", 1), (1, "x", "", 2), (0, "y", "", 2)])
RUN_Y, RUN_XX = [(0, "y", "", 2)], [(0, "x", "", 1), (1, "x", "", 2)]
COSTS = {0: [(0, 0)], 1: [(1, 0)], 2: [(0, 1), (2, 0)]}


class LeastFalls(unittest.TestCase):
    def test_example(self):
        found = least_falls(TWO_WAYS, (2,))
        self.assertEqual([found.vectors, found.runs[0]], [[(0, 1), (2, 0)], [(0, "y", "", 2)]])
        self.assertEqual(found.runs, [RUN_Y, RUN_XX])
        self.assertTrue(found.shows(TWO_WAYS, (2,)))

    def test_no_states_and_no_runs_to_them(self):
        for goals in ((), (1,)):
            found = least_falls(Machine(2, [(1, "x", "", 0)]), goals)
            self.assertEqual((found.vectors, found.runs), ([], []))
            self.assertTrue(found.shows(Machine(2, [(1, "x", "", 0)]), goals))

    def test_state_0_and_no_kinds(self):
        found = least_falls(Machine(1, []), (0,))
        self.assertEqual((found.vectors, found.runs), ([()], [[]]))
        self.assertTrue(found.shows(Machine(1, []), (0,)))
        found = least_falls(TWO_WAYS, (0, 2))
        self.assertEqual((found.vectors, found.runs), ([(0, 0)], [[]]))

    def test_chain_of_3000(self):
        machine = Machine(3000, [(state, "x", "", state + 1) for state in range(2999)])
        found = least_falls(machine, (2999,))
        self.assertEqual(found.vectors, [(2999,)])
        self.assertTrue(found.shows(machine, (2999,)))

    def test_long_ways_with_fewer_falls(self):
        steps = [(0, "x", "", 3), (0, "", "", 1), (1, "", "", 2), (2, "", "", 3), (3, "y", "", 4)]
        self.assertEqual(least_falls(Machine(5, steps), (4,)).vectors, [(0, 1)])

    def test_at_random(self):
        rng = rng_of(1)
        for _ in range(300):
            machine = some_machine(rng, most_states=6, most_steps=12, kinds=("x", "y", "z"), own=0.3)
            goals = some_states(rng, machine)
            found = least_falls(machine, goals)
            self.assertEqual(found.vectors, least_vectors(machine, goals))
            self.assertTrue(found.shows(machine, goals))
            for run, vector in zip(found.runs, found.vectors):
                self.assertIn(last_state(machine, run), goals)
                self.assertEqual(falls_of(machine, run), vector)

    def test_bad_states(self):
        for goals in ([2], (3,), (-1,), (1, 1), (2, 1), (True,), None, {2: 1}, ("2",), 2):
            with self.assertRaises(BadStates):
                least_falls(TWO_WAYS, goals)
            with self.assertRaises(BadStates):
                Least([], [], {}).shows(TWO_WAYS, goals)


class LeastEvidence(unittest.TestCase):
    def shows(self, vectors, runs, costs, goals=(2,)):
        return Least(vectors, runs, costs).shows(TWO_WAYS, goals)

    def test_shows(self):
        self.assertTrue(self.shows([(0, 1), (2, 0)], [RUN_Y, RUN_XX], COSTS))
        self.assertTrue(self.shows(((0, 1), (2, 0)), (tuple(RUN_Y), RUN_XX), {k: tuple(v) for k, v in COSTS.items()}))
        more = {0: [(0, 0), (7, 7), (0, 0)], 1: [(1, 0)], 2: [(0, 1), (2, 0), (5, 0)]}
        self.assertTrue(self.shows([(0, 1), (2, 0)], [RUN_Y, RUN_XX], more))

    def test_wrong_vectors(self):
        for vectors, runs in (([(0, 1)], [RUN_Y]), ([(2, 0), (0, 1)], [RUN_XX, RUN_Y]), ([], []),
                              ([(0, 1), (2, 1)], [RUN_Y, RUN_XX]), ([(0, 1), (0, 1), (2, 0)], [RUN_Y, RUN_Y, RUN_XX]),
                              ([(0, 1), (2, 0), (3, -1)], [RUN_Y, RUN_XX, RUN_XX]), ([(0, 0)], [[]])):
            self.assertFalse(self.shows(vectors, runs, COSTS), vectors)

    def test_wrong_runs(self):
        for runs in ([RUN_Y], [RUN_Y, RUN_XX, RUN_XX], [RUN_XX, RUN_Y], [RUN_Y, RUN_XX[:1]], [RUN_Y, RUN_XX[1:]],
                     [RUN_Y, [(0, "x", "", 1), (1, "x", "a", 2)]], [[], RUN_XX]):
            self.assertFalse(self.shows([(0, 1), (2, 0)], runs, COSTS), runs)

    def test_wrong_costs(self):
        vectors, runs = [(0, 1), (2, 0)], [RUN_Y, RUN_XX]
        for costs in ({}, {**COSTS, 0: []}, {**COSTS, 0: [(0, 1)]}, {**COSTS, 1: []}, {**COSTS, 1: [(2, 0)]},
                      {0: [(0, 0)], 2: [(0, 1), (2, 0)]}, {**COSTS, 3: [(0, 0)]}, {**COSTS, -1: [(9, 9)]},
                      {**COSTS, 3: []}, {**COSTS, 2: [(0, 1)]}, {**COSTS, 2: [(0, 0)]}, {**COSTS, 2: [(0, 1), (1, 0)]},
                      {**COSTS, 0: [(0, 0), (-1, 0)]}, {**COSTS, 1: [(1, 0), (1,)]}, {**COSTS, 1: [(0, 0)]}):
            self.assertFalse(self.shows(vectors, runs, costs), costs)

    def test_attributes_are_new_lists_and_may_be_changed(self):
        runs, costs = [list(RUN_Y), list(RUN_XX)], {k: list(v) for k, v in COSTS.items()}
        found = Least(((0, 1), (2, 0)), (tuple(runs[0]), runs[1]), costs)
        self.assertEqual((found.vectors, found.runs), ([(0, 1), (2, 0)], runs))
        runs[1].append(None)
        costs[0].append((4, 4))
        self.assertEqual((found.runs, found.costs), ([RUN_Y, RUN_XX], COSTS))
        self.assertTrue(found.shows(TWO_WAYS, (2,)))
        self.assertFalse(found.shows(TWO_WAYS, (1,)))
        found.costs[0].clear()
        self.assertFalse(found.shows(TWO_WAYS, (2,)))
        found.costs = COSTS
        self.assertTrue(found.shows(TWO_WAYS, (2,)))
        found.vectors.pop()
        self.assertFalse(found.shows(TWO_WAYS, (2,)))

    def test_equality(self):
        one = Least([(0, 1), (2, 0)], [RUN_Y, RUN_XX], COSTS)
        self.assertEqual(one, least_falls(TWO_WAYS, (2,)))
        self.assertNotEqual(one, Least([(0, 1)], [RUN_Y, RUN_XX], COSTS))
        self.assertNotEqual(one, Least([(0, 1), (2, 0)], [RUN_Y], COSTS))
        self.assertNotEqual(one, Least([(0, 1), (2, 0)], [RUN_Y, RUN_XX], {}))
        self.assertFalse(one == 3)


class Vectors(unittest.TestCase):
    def test_falls_of(self):
        self.assertEqual(falls_of(TWO_WAYS, RUN_XX), (2, 0))
        self.assertEqual(falls_of(TWO_WAYS, tuple(RUN_Y)), (0, 1))
        self.assertEqual(falls_of(TWO_WAYS, []), (0, 0))
        self.assertEqual(falls_of(Machine(1, []), []), ())

    def test_falls_of_no_run(self):
        for run, place in ((None, None), ("", None), (RUN_XX[1:], 0), (RUN_XX + RUN_Y, 2), ([RUN_Y[0], 5], 1)):
            with self.assertRaises(BadRun) as caught:
                falls_of(TWO_WAYS, run)
            self.assertEqual(caught.exception.place, place)

    def test_is_within(self):
        self.assertTrue(is_within((1, 2), (1, 2)))
        self.assertTrue(is_within((1, 2), [None, 2]))
        self.assertFalse(is_within((1, 3), [None, 2]))
        self.assertFalse(is_within((1, 0), (0, 5)))
        self.assertTrue(is_within((), ()))

    def test_least_of(self):
        self.assertEqual(least_of([]), [])
        self.assertEqual(least_of([(2, 0), (0, 1), (2, 0), (2, 1), (0, 1)]), [(0, 1), (2, 0)])
        self.assertEqual(least_of([(1, 1), (0, 0)]), [(0, 0)])
        self.assertEqual(least_of([()]), [()])
        given = [(2, 0), (0, 1)]
        least_of(given)
        self.assertEqual(given, [(2, 0), (0, 1)])


class HoldsFor(unittest.TestCase):
    def test_holds_for(self):
        self.assertTrue(holds_for(TWO_WAYS, (2,), {"x": 1}))
        self.assertFalse(holds_for(TWO_WAYS, (2,), {"x": 2}))
        self.assertFalse(holds_for(TWO_WAYS, (2,), {"x": None}))
        self.assertTrue(holds_for(TWO_WAYS, (2,), {}))
        self.assertTrue(holds_for(TWO_WAYS, (), {"x": None, "y": None}))
        self.assertFalse(holds_for(TWO_WAYS, (0,), {}))

    def test_as_least_vectors_tell(self):
        rng = rng_of(2)
        for _ in range(200):
            machine = some_machine(rng, own=0.3)
            goals, allowances = some_states(rng, machine), some_allowances(rng, machine)
            limits = [allowances.get(kind, 0) for kind in machine.kinds]
            expected = not any(is_within(vector, limits) for vector in least_vectors(machine, goals))
            self.assertEqual(holds_for(machine, goals, allowances), expected)
            self.assertEqual(not any(goal in ends_within(machine, allowances) for goal in goals), expected)

    def test_errors(self):
        for allowances in ({"z": 1}, {"x": -1}, {"x": True}, {"x": "1"}, {"x": 1.0}, [], None, {3: 1}, {"": 1}, {"X": 1},
                           [("x", 1)], Limits(x=1)):
            with self.assertRaises(BadAllowances):
                holds_for(TWO_WAYS, (2,), allowances)
            with self.assertRaises(BadStates):
                holds_for(TWO_WAYS, [2], allowances)

    def test_arguments_are_not_changed(self):
        allowances = {"x": None}
        holds_for(TWO_WAYS, (2,), allowances)
        self.assertEqual(allowances, {"x": None})
