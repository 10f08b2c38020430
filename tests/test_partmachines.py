"""The machines of routes and links, asked what all machines are asked: points [2] to [11] for those of [13] and [14]."""

import unittest

from allbrokers.barring import barring
from allbrokers.delays import delay
from allbrokers.falls import least_falls
from allbrokers.joining import hidden, joined
from allbrokers.links import Link, LinkCase
from allbrokers.machines import Machine
from allbrokers.merging import do_the_same, merged
from allbrokers.outside import is_trace, judge_alike
from allbrokers.promises import farthest, judge_can, judge_never
from allbrokers.routes import Case, Route
from allbrokers.walking import is_seen
from allbrokers.watching import tells

CASES = (Case(Route(repeats=False, place="with")), Case(Route(need=0, copies=2, window=None)), LinkCase(Link(check="next")),
         LinkCase(Link(ahead=2, repeats=False, room=1)))


class PartMachines(unittest.TestCase):
    def test_evidence_shows(self):
        for case in CASES:
            machine = case.machine
            for promise in ("doubled", "lost"):
                bad = case.bad(promise)
                self.assertTrue(least_falls(machine, bad).shows(machine, bad))
                self.assertTrue(barring(machine, bad).shows(machine, bad))
                for limit in (0, 1, None):
                    allowances = {kind: limit for kind in machine.kinds}
                    for made in (judge_never, judge_can, farthest, delay):
                        self.assertTrue(made(machine, bad, allowances).shows(machine, bad, allowances), made)

    def test_least_falls_agree_with_bars(self):
        for case in CASES:
            bad = case.bad("lost")
            vectors = least_falls(case.machine, bad).vectors
            sets = [{kind for kind, number in zip(case.machine.kinds, vector) if number} for vector in vectors]
            for kinds in barring(case.machine, bad).sets:
                self.assertTrue(all(one & set(kinds) for one in sets))

    def test_out_is_seen(self):
        route = Route(repeats=False, place="with")
        case = CASES[0]
        found = judge_never(case.machine, case.out(), {})
        self.assertTrue(is_seen(found.run, "out"))
        self.assertEqual(len(found.run), 3)
        self.assertEqual(case.states, Case(route).states)

    def test_from_outside(self):
        machine = CASES[0].machine
        self.assertTrue(is_trace(machine, ["told", "out"], ()))
        self.assertTrue(is_trace(machine, ["out", "told"], ()))
        self.assertFalse(is_trace(machine, ["out", "out"], ()))
        self.assertTrue(is_trace(machine, ["out", "out"], ("sender",)))
        self.assertFalse(is_trace(machine, ["told", "told"], ("answer", "call", "leader")))
        for one in (merged(machine), joined(machine, Machine(1, [(0, "", "out", 0)]), ("out",))):
            self.assertTrue(do_the_same(one, machine))
            self.assertTrue(judge_alike(one, machine, ("call",)).shows(one, machine, ("call",)))
        found = judge_alike(hidden(machine, "told"), machine, ())
        self.assertEqual(found.trace, ["told"])

    def test_watching(self):
        machine = CASES[2].machine
        for kind in machine.kinds:
            self.assertTrue(tells(machine, kind, tuple(machine.kinds)).shows(machine, kind, tuple(machine.kinds)))
