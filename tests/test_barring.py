"""Bars: point [10]."""

import itertools
import unittest

from allbrokers.barring import Barring, barring
from allbrokers.errors import BadStates, TooLarge
from allbrokers.machines import Machine
from brute import ends_within, rng_of, some_machine, some_states

EXAMPLE = Machine(3, [(0, "x", "", 2), (0, "y", "", 1), (1, "z", "", 2)])
RUN_X, RUN_YZ = [(0, "x", "", 2)], [(0, "y", "", 1), (1, "z", "", 2)]
NO_XY, NO_XZ = {0: [(0, 0, 0)]}, {0: [(0, 0, 0)], 1: [(0, 1, 0)]}
SETS, TABLES, RUNS = [("x", "y"), ("x", "z")], [NO_XY, NO_XZ], [RUN_X, RUN_YZ]
LETTERS = "abcdefghijk"


def least_sets(machine, bad):
    found = []
    for size in range(len(machine.kinds) + 1):
        for kinds in itertools.combinations(machine.kinds, size):
            allowances = {kind: None for kind in machine.kinds if kind not in kinds}
            if not any(state in ends_within(machine, allowances) for state in bad):
                if not any(set(less) <= set(kinds) for less in found):
                    found.append(kinds)
    return found


class Bars(unittest.TestCase):
    def test_example(self):
        found = barring(EXAMPLE, (2,))
        self.assertEqual(found.sets, [("x", "y"), ("x", "z")])
        self.assertTrue(found.shows(EXAMPLE, (2,)))

    def test_nothing_need_be_barred(self):
        for machine, bad in ((Machine(1, []), ()), (EXAMPLE, ()), (Machine(2, [(1, "x", "", 0)]), (1,))):
            found = barring(machine, bad)
            self.assertEqual((found.sets, len(found.tables), found.runs), ([()], 1, []))
            self.assertTrue(found.shows(machine, bad))

    def test_nothing_is_enough(self):
        for machine, bad in ((Machine(1, []), (0,)), (Machine(2, [(0, "", "", 1), (0, "x", "", 1)]), (1,))):
            found = barring(machine, bad)
            self.assertEqual((found.sets, found.tables), ([], []))
            self.assertTrue(found.shows(machine, bad))
            self.assertFalse(Barring([], [], []).shows(machine, bad))

    def test_ten_kinds(self):
        machine = Machine(6, [(s, LETTERS[2 * s + k], "", s + 1) for s in range(5) for k in range(2)])
        found = barring(machine, (5,))
        self.assertEqual(found.sets, [("a", "b"), ("c", "d"), ("e", "f"), ("g", "h"), ("i", "j")])
        self.assertTrue(found.shows(machine, (5,)))
        several = Machine(2, [(0, kind, "", 1) for kind in LETTERS[:10]])
        found = barring(several, (1,))
        self.assertEqual(found.sets, [tuple(LETTERS[:10])])
        self.assertTrue(found.shows(several, (1,)))

    def test_at_random(self):
        rng = rng_of(61)
        for _ in range(200):
            machine = some_machine(rng, most_states=5, most_steps=10, kinds=("w", "x", "y", "z"), own=0.2)
            bad = some_states(rng, machine)
            found = barring(machine, bad)
            self.assertEqual(found.sets, least_sets(machine, bad))
            self.assertTrue(found.shows(machine, bad))

    def test_errors(self):
        large = Machine(1, [(0, kind, "", 0) for kind in LETTERS])
        for call in (barring, Barring([], [], []).shows):
            for bad in ([2], (3,), (2, 1), (1, 1), (True,), None):
                with self.assertRaises(BadStates):
                    call(EXAMPLE, bad)
            with self.assertRaises(TooLarge):
                call(large, ())
            with self.assertRaises(BadStates):
                call(large, (1,))


class Evidence(unittest.TestCase):
    def shows(self, sets=SETS, tables=TABLES, runs=RUNS, bad=(2,)):
        return Barring(sets, tables, runs).shows(EXAMPLE, bad)

    def test_shows(self):
        self.assertTrue(self.shows())
        self.assertTrue(self.shows(runs=[RUN_YZ, RUN_X, RUN_X]))
        self.assertTrue(self.shows(tuple(SETS), tuple(TABLES), tuple(tuple(run) for run in RUNS)))
        self.assertFalse(self.shows(bad=(1, 2)))

    def test_wrong_sets(self):
        all_kinds = ("x", "y", "z")
        for sets, tables in (([], []), (SETS[:1], TABLES[:1]), (SETS[1:], TABLES[1:]), (SETS[::-1], TABLES[::-1]),
                             ([("y", "x"), ("x", "z")], TABLES), (SETS + SETS[1:], TABLES + TABLES[1:]),
                             (SETS + [all_kinds], TABLES + [NO_XY]), ([("w", "x", "y"), ("x", "z")], TABLES),
                             ([("x", "x", "y"), ("x", "z")], TABLES), ([("x",), ("x", "z")], TABLES),
                             ([()], [NO_XY]), ([all_kinds], [NO_XY]), (SETS, TABLES[:1]), (SETS, TABLES + TABLES)):
            self.assertFalse(self.shows(sets, tables), sets)

    def test_wrong_tables(self):
        for tables in ([{}, NO_XZ], [NO_XY, NO_XY], [NO_XY, {}], [NO_XY, {0: [(0, 0, 0)], 1: [(0, 1, 0)], 2: [(0, 0, 0)]}],
                       [NO_XY, {0: [(0, 0, 0)], 1: [(0, 1, 0)], 3: [(9, 9, 9)]}], [NO_XY, {0: [(0, 0, 0)], 1: [(0, 2, 0)]}]):
            self.assertFalse(self.shows(tables=tables), tables)

    def test_wrong_runs(self):
        for runs in ([], RUNS[:1], RUNS[1:], [RUN_X, RUN_YZ[:1]], [RUN_X, RUN_YZ, []], [RUN_X, RUN_YZ, [(0, "z", "", 2)]],
                     [RUN_X, RUN_YZ[1:]], RUNS + [RUN_YZ[:1]]):
            self.assertFalse(self.shows(runs=runs), runs)

    def test_equality_and_copies(self):
        sets, tables, runs = [("x",)], [{0: [(0,)]}], [[1]]
        one = Barring(sets, tables, runs)
        sets.clear()
        tables[0][0].clear()
        runs[0].clear()
        self.assertEqual((one.sets, one.tables, one.runs), ([("x",)], [{0: [(0,)]}], [[1]]))
        self.assertEqual(one, Barring((("x",),), ({0: ((0,),)},), ((1,),)))
        for other in (Barring([], [{0: [(0,)]}], [[1]]), Barring([("x",)], [], [[1]]), Barring([("x",)], [{0: [(0,)]}], []), 1):
            self.assertFalse(one == other)
