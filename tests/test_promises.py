"""Never and can: points [5] and [6]."""

import unittest

from allbrokers.errors import BadAllowances, BadStates
from allbrokers.limits import Limits
from allbrokers.machines import Machine
from allbrokers.promises import Able, Broken, Farthest, Kept, Stuck, dead_states, farthest, judge_can, judge_never
from brute import ends_within, own_distances, rng_of, some_allowances, some_machine, some_states

MACHINE = Machine(3, [(0, "x", "", 1), (1, "x", "", 2), (0, "y", "", 2)])
RUN_XX = [(0, "x", "", 1), (1, "x", "", 2)]

# 0 -> 1 -> 2 by own steps, 3 behind a fall with a loop, 4 reached by none.
WAY = Machine(5, [(0, "", "", 1), (1, "", "a", 2), (1, "x", "", 3), (3, "", "", 3), (4, "", "", 4), (1, "", "", 0)])


def wrong_calls(test, call):
    """Wrong states come ahead of wrong allowances."""
    for states in ([2], (9,), (-1,), (1, 1), (2, 1), (True,), None, 2):
        for allowances in ({"x": 1}, {"x": -1}):
            with test.assertRaises(BadStates):
                call(states, allowances)
    for allowances in (None, [], {"x": -1}, {"x": True}, {"x": "1"}, {"z": 1}, {"X": 1}, {1: 1}, Limits(x=1)):
        with test.assertRaises(BadAllowances):
            call((2,), allowances)


class Never(unittest.TestCase):
    def test_example(self):
        found = [bool(judge_never(MACHINE, (2,), {"x": 1})), judge_never(MACHINE, (2,), {"x": None}).run,
                 dead_states(MACHINE, (2,))]
        self.assertEqual(found, [True, RUN_XX, (0, 1)])

    def test_shortest_run_counts(self):
        # The long way needs fewer falls, but the short one is within the allowances, too.
        machine = Machine(5, [(0, "x", "", 3), (0, "", "", 1), (1, "", "", 2), (2, "", "", 3), (3, "x", "", 4)])
        self.assertEqual(len(judge_never(machine, (4,), {"x": 1}).run), 4)
        self.assertEqual(len(judge_never(machine, (4,), {"x": 2}).run), 2)
        self.assertTrue(judge_never(machine, (4,), {}))

    def test_state_0(self):
        found = judge_never(MACHINE, (0,), {})
        self.assertEqual(found, Broken([]))
        self.assertTrue(found.shows(MACHINE, (0,), {}))

    def test_no_states_and_no_steps(self):
        self.assertTrue(judge_never(MACHINE, (), {"x": None, "y": None}))
        self.assertTrue(judge_never(Machine(2, []), (1,), {}))
        self.assertTrue(judge_never(Machine(2, []), (1,), {}).shows(Machine(2, []), (1,), {}))

    def test_3000_states(self):
        machine = Machine(3000, [(state, "x", "", state + 1) for state in range(2999)])
        for allowances, is_kept in (({"x": 2998}, True), ({"x": 2999}, False), ({"x": None}, False)):
            found = judge_never(machine, (2999,), allowances)
            self.assertEqual(bool(found), is_kept)
            self.assertTrue(found.shows(machine, (2999,), allowances))

    def test_at_random(self):
        rng = rng_of(21)
        for _ in range(500):
            machine = some_machine(rng, most_states=6, most_steps=12, kinds=("x", "y", "z"), own=0.4)
            bad, allowances = some_states(rng, machine), some_allowances(rng, machine)
            far = ends_within(machine, allowances)
            found = judge_never(machine, bad, allowances)
            lengths = [far[state] for state in bad if state in far]
            self.assertEqual(bool(found), not lengths)
            self.assertTrue(found.shows(machine, bad, allowances))
            if lengths:
                self.assertEqual(len(found.run), min(lengths))

    def test_kept_evidence(self):
        costs, allowances = {0: [(0, 0)], 1: [(1, 0)]}, {"x": 1}
        self.assertTrue(Kept(costs).shows(MACHINE, (2,), allowances))
        self.assertTrue(Kept({0: ((0, 0),), 1: ((1, 0),)}).shows(MACHINE, (2,), allowances))
        self.assertTrue(Kept({**costs, 2: [(2, 0), (0, 1)]}).shows(MACHINE, (2,), allowances))
        self.assertTrue(Kept({**costs, 2: []}).shows(MACHINE, (2,), allowances))
        for wrong in ({}, {0: [(0, 0)]}, {0: [(1, 0)], 1: [(1, 0)]}, {**costs, 1: [(2, 0)]}, {**costs, 2: [(1, 0)]},
                      {**costs, 3: [(0, 0)]}, {**costs, -1: [(0, 0)]}, {**costs, 1: [(0, 0)]}, {**costs, 1: [(1, -1)]},
                      {**costs, 1: [(1,), (1, 0)]}):
            self.assertFalse(Kept(wrong).shows(MACHINE, (2,), allowances), wrong)
        self.assertFalse(Kept(costs).shows(MACHINE, (2,), {"x": 2}))
        self.assertFalse(Kept(costs).shows(MACHINE, (1,), allowances))

    def test_kinds_without_limits_may_be_left_out_of_vectors(self):
        machine = Machine(3, [(0, "x", "", 1), (1, "y", "", 0), (1, "x", "", 2)])
        found = judge_never(machine, (2,), {"y": None, "x": 0})
        self.assertTrue(found and found.shows(machine, (2,), {"y": None, "x": 0}))
        self.assertTrue(Kept({0: [(0, 0)], 1: [(1, 0)]}).shows(machine, (2,), {"y": None, "x": 1}))
        self.assertFalse(Kept({0: [(0, 0)], 1: [(1, 0)]}).shows(machine, (2,), {"y": None, "x": 2}))
        self.assertTrue(Kept({0: [(0, 0)]}).shows(machine, (2,), {"y": None}))

    def test_broken_evidence(self):
        machine = Machine(3, [(0, "x", "", 1), (1, "x", "", 2), (0, "y", "", 2), (2, "", "", 2)])
        allowances = {"x": 2, "y": 1}
        self.assertTrue(Broken([(0, "y", "", 2)]).shows(machine, (2,), allowances))
        self.assertTrue(Broken(((0, "y", "", 2),)).shows(machine, (2,), allowances))
        for run in ([], RUN_XX, [(0, "y", "", 2), (2, "", "", 2)], [(0, "x", "", 1)], [(0, "x", "", 2)], [(1, "x", "", 2)],
                    [(0, "y", "", -1)]):
            self.assertFalse(Broken(run).shows(machine, (2,), allowances), run)
        self.assertFalse(Broken([(0, "y", "", 2)]).shows(machine, (2,), {"x": 2}))
        self.assertTrue(Broken(RUN_XX).shows(machine, (2,), {"x": 2}))
        self.assertFalse(Broken(RUN_XX).shows(machine, (2,), {"x": 1, "y": None}))
        self.assertFalse(Broken(RUN_XX).shows(machine, (2,), {"x": 1}))

    def test_evidence_is_copied_and_may_be_changed(self):
        costs, run = {0: [(0, 0)]}, [(0, "y", "", 2)]
        kept, broken = Kept(costs), Broken(tuple(run))
        costs[0].append(None)
        self.assertEqual((kept.costs, broken.run), ({0: [(0, 0)]}, run))
        self.assertTrue(kept.shows(MACHINE, (2,), {}))
        kept.costs[2] = [(0, 0)]
        self.assertFalse(kept.shows(MACHINE, (2,), {}))
        broken.run.pop()
        self.assertFalse(broken.shows(MACHINE, (2,), {"y": 1}))

    def test_equality_and_truth(self):
        self.assertEqual(Kept({0: [(0,)]}), Kept({0: ((0,),)}))
        self.assertNotEqual(Kept({0: [(0,)]}), Kept({0: []}))
        self.assertEqual(Broken([(0, "", "", 1)]), Broken(((0, "", "", 1),)))
        self.assertNotEqual(Broken([]), Broken([(0, "", "", 1)]))
        self.assertFalse(Kept({}) == Broken([]))
        self.assertEqual((bool(Kept({})), bool(Broken([]))), (True, False))

    def test_errors(self):
        wrong_calls(self, lambda bad, allowances: judge_never(MACHINE, bad, allowances))
        wrong_calls(self, lambda bad, allowances: Kept({}).shows(MACHINE, bad, allowances))
        wrong_calls(self, lambda bad, allowances: Broken([]).shows(MACHINE, bad, allowances))


class Can(unittest.TestCase):
    def test_able(self):
        found = judge_can(WAY, (2,), {})
        self.assertTrue(found)
        self.assertEqual(found.ranks, {0: 2, 1: 1, 2: 0})
        self.assertTrue(found.shows(WAY, (2,), {}))

    def test_stuck(self):
        found = judge_can(WAY, (2,), {"x": 1})
        self.assertIsInstance(found, Stuck)
        self.assertEqual(found.run[-1], (1, "x", "", 3))
        self.assertIn(3, found.dead)
        self.assertTrue(found.shows(WAY, (2,), {"x": 1}))
        self.assertEqual(farthest(WAY, (2,), {"x": None}), found)

    def test_dead_states(self):
        self.assertEqual(dead_states(WAY, (2,)), (3, 4))
        self.assertEqual(dead_states(WAY, ()), (0, 1, 2, 3, 4))
        self.assertEqual(dead_states(WAY, (0, 1, 2, 3, 4)), ())
        self.assertEqual(dead_states(WAY, (3,)), (0, 1, 2, 4))
        for goals in ([2], (5,), (2, 1), (False,), None):
            with self.assertRaises(BadStates):
                dead_states(WAY, goals)

    def test_no_goals(self):
        found = judge_can(WAY, (), {})
        self.assertEqual((bool(found), found.run), (False, []))
        self.assertTrue(found.shows(WAY, (), {}))

    def test_farthest(self):
        found = farthest(WAY, (2,), {})
        self.assertEqual((found.number, found.run, found.ranks), (2, [], {0: 2, 1: 1, 2: 0}))
        self.assertTrue(found.shows(WAY, (2,), {}))
        machine = Machine(4, [(0, "x", "", 1), (1, "", "", 2), (2, "", "", 3), (0, "", "", 3)])
        found = farthest(machine, (3,), {"x": 1})
        self.assertEqual((found.number, found.run), (2, [(0, "x", "", 1)]))
        self.assertEqual(farthest(machine, (3,), {}).number, 1)
        self.assertEqual(farthest(machine, (0, 3), {}).number, 0)

    def test_at_random(self):
        rng = rng_of(22)
        kinds_of_answers = set()
        for _ in range(500):
            machine = some_machine(rng, most_states=6, most_steps=12, own=0.7)
            goals, allowances = some_states(rng, machine), some_allowances(rng, machine)
            far, ends = own_distances(machine, goals), ends_within(machine, allowances)
            self.assertEqual(dead_states(machine, goals), tuple(s for s in range(len(machine)) if s not in far))
            found, most = judge_can(machine, goals, allowances), farthest(machine, goals, allowances)
            kinds_of_answers.add(bool(found))
            self.assertEqual(bool(found), all(state in far for state in ends))
            self.assertTrue(found.shows(machine, goals, allowances))
            self.assertTrue(most.shows(machine, goals, allowances))
            if found:
                self.assertEqual(most.number, max(far[state] for state in ends))
            else:
                self.assertIsInstance(most, Stuck)
        self.assertEqual(kinds_of_answers, {True, False})

    def test_able_evidence(self):
        costs, ranks = {0: [(0,)], 1: [(0,)], 2: [(0,)]}, {0: 2, 1: 1, 2: 0}

        def shows(ranks, costs, allowances=None):
            return Able(ranks, costs).shows(WAY, (2,), allowances or {})

        self.assertTrue(shows(ranks, costs))
        self.assertTrue(shows({0: 9, 1: 4, 2: 0}, costs))
        self.assertTrue(shows(ranks, {**costs, 3: [(1,)]}))
        for wrong in ({0: 2, 1: 1}, {0: 2, 1: 2, 2: 0}, {0: 1, 1: 1, 2: 0}, {0: 0, 1: 1, 2: 0}, {0: 2, 1: 0, 2: 0},
                      {0: 2, 1: 1, 2: 1}, {0: 2, 1: 1, 2: -1}, {0: 2, 1: 0, 2: -1}, {**ranks, 3: 1}, {**ranks, 3: 0},
                      {**ranks, 5: 0}, {**ranks, 5: 3}, {**ranks, -4: 2}, {**ranks, -1: 3}, {}, {**ranks, 4: 9}):
            self.assertFalse(shows(wrong, costs), wrong)
        for wrong in ({}, {0: [(0,)]}, {**costs, 2: []}, {**costs, 3: [(0,)]}, {**costs, 5: [(1,)]}, {**costs, 0: [(1,)]}):
            self.assertFalse(shows(ranks, wrong), wrong)
        self.assertFalse(shows(ranks, costs, {"x": 1}))
        self.assertFalse(shows(ranks, {**costs, 3: [(1,)]}, {"x": 1}))

    def test_stuck_evidence(self):
        run = [(0, "", "", 1), (1, "x", "", 3)]

        def shows(run, dead, goals=(2,), allowances=None):
            return Stuck(run, dead).shows(WAY, goals, {"x": 1} if allowances is None else allowances)

        self.assertTrue(shows(run, (3,)))
        self.assertTrue(shows(tuple(run), (3, 4)))
        for dead in ((), (4,), (4, 3), (3, 3), (2, 3), (1, 3), (3, 5), (-1, 3)):
            self.assertFalse(shows(run, dead), dead)
        for wrong in ([], run[:1], run[1:], run + [(3, "", "a", 3)], run + [(3, "x", "", 3)]):
            self.assertFalse(shows(wrong, (3,)), wrong)
        self.assertTrue(shows(run + [(3, "", "", 3)], (3,)))
        self.assertFalse(shows(run, (3,), allowances={}))
        self.assertFalse(shows(run, (3,), goals=(2, 3)))

    def test_farthest_evidence(self):
        costs, ranks = {0: [(0,)], 1: [(0,)], 2: [(0,)]}, {0: 2, 1: 1, 2: 0}

        def shows(number, run, ranks, costs=costs, allowances=None):
            return Farthest(number, run, ranks, costs).shows(WAY, (2,), allowances or {})

        self.assertTrue(shows(2, [], ranks))
        self.assertTrue(shows(2, [(0, "", "", 1), (1, "", "", 0)], ranks))
        self.assertFalse(shows(2, [], {**ranks, 0: 3}))
        self.assertFalse(shows(2, [(0, "", "", 1)], ranks))
        self.assertFalse(shows(2, [(0, "", "", 2)], ranks))
        self.assertFalse(shows(1, [(0, "", "", 1)], ranks))
        for number in (-1, 0, 1, 3):
            self.assertFalse(shows(number, [], ranks), number)
        self.assertFalse(shows(2, [], {0: 2, 1: 1}))
        self.assertFalse(shows(2, [], ranks, costs={0: [(0,)]}))
        self.assertFalse(shows(2, [], ranks, allowances={"x": 1}))
        two = Machine(4, [(0, "", "", 2), (0, "x", "", 1), (1, "", "", 3), (3, "", "", 2)])
        self.assertFalse(Farthest(2, [(0, "x", "", 1)], {0: 1, 2: 0}, {0: [(0,)], 2: [(0,)]}).shows(two, (2,), {}))

    def test_truth_and_equality(self):
        self.assertEqual((bool(Able({}, {})), bool(Stuck([], ())), bool(Farthest(0, [], {}, {}))), (True, False, False))
        self.assertEqual(Able({0: 0}, {0: [(0,)]}), Able({0: 0}, {0: ((0,),)}))
        self.assertNotEqual(Able({0: 0}, {0: [(0,)]}), Able({0: 1}, {0: [(0,)]}))
        self.assertNotEqual(Able({0: 0}, {0: [(0,)]}), Able({0: 0}, {}))
        self.assertEqual(Stuck([], (0,)), Stuck((), (0,)))
        self.assertNotEqual(Stuck([], (0,)), Stuck([], (1,)))
        self.assertNotEqual(Stuck([], (0,)), Stuck([1], (0,)))
        self.assertEqual(Farthest(1, [], {0: 1}, {}), Farthest(1, (), {0: 1}, {}))
        for other in (Farthest(2, [], {0: 1}, {}), Farthest(1, [3], {0: 1}, {}), Farthest(1, [], {}, {}),
                      Farthest(1, [], {0: 1}, {0: []}), Able({0: 1}, {}), 1):
            self.assertFalse(Farthest(1, [], {0: 1}, {}) == other)

    def test_copies(self):
        ranks, costs = {0: 0}, {0: [(0,)]}
        able, most = Able(ranks, costs), Farthest(0, (), ranks, costs)
        ranks[1] = 5
        costs[0].clear()
        self.assertEqual((able.ranks, able.costs, most.ranks, most.costs), ({0: 0}, {0: [(0,)]}, {0: 0}, {0: [(0,)]}))

    def test_errors(self):
        calls = [judge_can, farthest]
        for call in calls:
            wrong_calls(self, lambda goals, allowances: call(MACHINE, goals, allowances))
        for evidence in (Able({}, {}), Stuck([], ()), Farthest(0, [], {}, {})):
            wrong_calls(self, lambda goals, allowances: evidence.shows(MACHINE, goals, allowances))
