"""Reports: point [18]."""

import unittest

from allbrokers.choices import judge
from allbrokers.errors import BadRun
from allbrokers.reports import report
from allbrokers.routes import Case, Route
from allbrokers.walking import stepper


def run_by(route, labels):
    """The run of a route whose steps have these kinds, words, and goals that a test takes."""
    case = Case(route)
    go, state, run = stepper(case.machine), 0, []
    for kind, seen, is_goal in labels:
        step = [step for step in case.machine.behind(state) if step[1:3] == (kind, seen) and is_goal(case.states[step[3]])][0]
        state = go(step)
        run.append(step)
    return run


def any_goal(state):
    return True


class Report(unittest.TestCase):
    def test_example(self):
        expected = "0 start: the row is not sent; 0 under way; copies have it 0; read 0, saved 0; out never\n"
        self.assertEqual(report(Route(), []), expected)
        self.assertEqual(report(Route(), ()), expected)

    def test_all_own_steps(self):
        route = Route(copies=2, need=2, outlet=0)
        run = run_by(route, [
            ("", "", lambda s: s[0][1] == 1), ("", "", lambda s: s[1] == (1, 0)), ("", "", lambda s: s[1] == (1, 1)),
            ("", "", lambda s: s[0][3] == 1), ("", "told", any_goal), ("", "out", any_goal), ("", "", lambda s: s[3] == (1, 1)),
        ])
        self.assertEqual(report(route, run), """\
0 start: the row is not sent; 0 under way; copies have it 0 0; read 0, saved 0; out never
1 step: the row is sent; 1 under way; copies have it 0 0; read 0, saved 0; out never
2 step: the row is sent; 0 under way; copies have it 1 0; read 0, saved 0; out never
3 step: the row is sent; 0 under way; copies have it 1 1; read 0, saved 0; out never
4 step: the row is sent; 0 under way; copies have it 1 1; an answer is under way; read 0, saved 0; out never
5 step, seen told: the row is told; 0 under way; copies have it 1 1; read 0, saved 0; out never
6 step, seen out: the row is told; 0 under way; copies have it 1 1; read 1, saved 0; out once
7 step: the row is told; 0 under way; copies have it 1 1; read 1, saved 1; out once
""")

    def test_doubled(self):
        route = Route(repeats=False)
        text = report(route, judge(route, "doubled", {"reader": 1}).run)
        self.assertEqual(text, """\
0 start: the row is not sent; 0 under way; copies have it 0; read 0, saved 0; out never
1 step: the row is sent; 1 under way; copies have it 0; read 0, saved 0; out never
2 step: the row is sent; 0 under way; copies have it 1; read 0, saved 0; out never
3 step, seen out: the row is sent; 0 under way; copies have it 1; read 1, saved 0; out once
4 fall reader: the row is sent; 0 under way; copies have it 1; read 0, saved 0; out once
5 step, seen out: the row is sent; 0 under way; copies have it 1; read 1, saved 0; out twice or more
""")

    def test_each_kind_of_fall(self):
        found = {}
        for route in (Route(room=2, place="with", window=1, outlet=1), Route(copies=2, need=0), Route(repeats=False)):
            case = Case(route)
            firsts = {0: []}
            queue = [0]
            for state in queue:
                for step in case.machine.behind(state):
                    run = firsts[state] + [step]
                    if step[1] not in found:
                        found[step[1]] = True
                        text = report(route, run).split("\n")
                        self.assertEqual(len(text), len(run) + 2)
                        begin = f"{len(run)} fall {step[1]}: the row is " if step[1] else f"{len(run)} step: the row is "
                        self.assertTrue(text[-2].startswith(begin), text)
                    if step[3] not in firsts:
                        firsts[step[3]] = run
                        queue.append(step[3])
        self.assertEqual(sorted(found), ["", "answer", "call", "copy", "double", "inrow", "leader", "outrow", "reader", "sender"])

    def test_bad_runs(self):
        route = Route(repeats=False)
        run = judge(route, "doubled", {"reader": 1}).run
        for wrong, place in ((None, None), ("", None), ({}, None), (run[1:], 0), (run + run, len(run)), (run[:2] + run[3:], 2),
                             ([None], 0), (run[:3] + ["step"], 3), ([(0, "", "", 0)], 0)):
            with self.assertRaises(BadRun, msg=wrong) as caught:
                report(route, wrong)
            self.assertEqual(caught.exception.place, place)
        with self.assertRaises(BadRun):
            report(Route(copies=2), run)
