"""Links: point [14]."""

import itertools
import unittest

from allbrokers.choices import judge
from allbrokers.errors import BadSettings, NoPromise, TooLarge
from allbrokers.links import Link, LinkCase
from allbrokers.promises import dead_states
from slowparts import slow_link

VALUES = {"ahead": (1, 2), "repeats": (True, False), "room": (1, 2), "check": ("none", "next", "window"), "window": (1, 2),
          "keeps": (True, False)}


def all_settings():
    for row in itertools.product(*VALUES.values()):
        yield dict(zip(VALUES, row))


class Settings(unittest.TestCase):
    def test_without_any(self):
        expected = {"ahead": 1, "repeats": True, "room": 2, "check": "none", "window": 1, "keeps": True}
        self.assertEqual(Link().settings(), expected)
        self.assertEqual(list(Link().settings()), list(expected))

    def test_all_that_are_told(self):
        for told in all_settings():
            self.assertEqual(Link(**told).settings(), told)

    def test_equality(self):
        for told in all_settings():
            self.assertEqual(Link(**told) == Link(), told == Link().settings())
        self.assertFalse(Link() == Link().settings())

    def test_bad_settings(self):
        wrong = {"ahead": (0, 3, True, None), "repeats": (1, 0, None), "room": (0, 3, True, "2"),
                 "check": ("all", None, True), "window": (0, 3, None, True), "keeps": (1, "yes", None, [])}
        for name, values in wrong.items():
            for value in values:
                with self.assertRaises(BadSettings, msg=(name, value)) as caught:
                    Link(**{name: value})
                self.assertEqual(caught.exception.name, name)

    def test_the_first_bad_setting(self):
        order = list(VALUES)
        for at, name in enumerate(order):
            with self.assertRaises(BadSettings) as caught:
                Link(**{other: None for other in order[at:]})
            self.assertEqual(caught.exception.name, name)

    def test_by_name_alone(self):
        with self.assertRaises(TypeError):
            Link(1)


class Machines(unittest.TestCase):
    def test_all_that_are_small_enough(self):
        many = 0
        for told in all_settings():
            try:
                case = LinkCase(Link(**told))
            except TooLarge:
                continue
            if len(case.machine) <= 1000:
                many += 1
                self.compare(told, case)
        self.assertGreater(many, 40)

    def compare(self, told, case):
        states, steps = slow_link(told)
        self.assertEqual(case.states, states, told)
        self.assertEqual(set(case.machine.steps), steps, told)
        self.assertEqual(case.states, case.states[:1] + sorted(case.states[1:]))

    def test_larger_ones(self):
        for told in ({"check": "window"}, {"ahead": 2, "repeats": False, "room": 1, "check": "window", "window": 2}):
            self.compare(Link(**told).settings(), LinkCase(Link(**told)))

    def test_first_states(self):
        case = LinkCase(Link(room=1, repeats=False))
        self.assertEqual(case.states[0], ((0, 0), (), (0, 0), (0, 0), (), 0))
        self.assertEqual([case.states[step[3]] for step in case.machine.behind(0)], [((1, 0), (0,), (0, 0), (0, 0), (), 0)])
        state = case.machine.behind(0)[0][3]
        told = [(step[1], step[2], case.states[step[3]]) for step in case.machine.behind(state)]
        expected = [("", "kept", ((1, 0), (), (1, 0), (1, 0), (), 0)), ("call", "", ((1, 0), (), (0, 0), (0, 0), (), 0)),
                    ("sender", "", ((0, 0), (0,), (0, 0), (0, 0), (), 0))]
        self.assertEqual(sorted(told), expected)

    def test_kinds(self):
        self.assertEqual(LinkCase(Link()).machine.kinds, ["answer", "call", "double", "late", "sender"])
        self.assertEqual(LinkCase(Link(room=1, check="window", keeps=False)).machine.kinds,
                         ["answer", "call", "inrow", "sender", "taker"])
        self.assertEqual(LinkCase(Link()).machine.words, ["kept", "told"])


class Promises(unittest.TestCase):
    def test_example(self):
        self.assertEqual([LinkCase(Link(check="next")).bad("doubled"), len(judge(Link(), "doubled", {}).run)], [(), 4])

    def test_states_of_promises(self):
        for told in ({}, {"check": "next"}, {"check": "window"}, {"ahead": 2, "repeats": False}):
            case = LinkCase(Link(**told))
            rows = list(enumerate(case.states))
            self.assertEqual(case.bad("doubled"), tuple(n for n, state in rows if max(state[3]) == 2))
            self.assertEqual(case.bad("disorder"), tuple(n for n, state in rows if state[5]))
            goals = tuple(n for n, state in rows if min(state[3]) > 0)
            self.assertEqual(case.bad("lost"), dead_states(case.machine, goals))

    def test_kept_and_broken(self):
        rows = [
            (Link(), "doubled", {}, False),
            (Link(repeats=False), "doubled", {}, True),
            (Link(repeats=False), "doubled", {"double": 1}, False),
            (Link(check="next"), "doubled", {"double": None, "late": None}, True),
            (Link(check="next", keeps=False), "doubled", {"taker": 1}, False),
            (Link(check="window"), "doubled", {}, True),
            (Link(check="window"), "doubled", {"inrow": 1}, False),
            (Link(check="window", window=2, repeats=False, ahead=1), "doubled", {"inrow": 1, "double": 1}, True),
            (Link(ahead=2, repeats=False), "disorder", {}, True),
            (Link(ahead=2, repeats=False), "disorder", {"late": 1}, False),
            (Link(ahead=2, repeats=False, check="next"), "disorder", {"late": None}, True),
            (Link(ahead=2, repeats=False, check="next"), "lost", {"late": 1}, False),
            (Link(ahead=2, check="next"), "lost", {"late": None, "call": None}, True),
            (Link(repeats=False), "lost", {}, True),
            (Link(repeats=False), "lost", {"call": 1}, False),
            (Link(), "lost", {"call": None}, True),
        ]
        for link, promise, allowances, is_kept in rows:
            case, found = LinkCase(link), judge(link, promise, allowances)
            self.assertEqual(bool(found), is_kept, (link.settings(), promise, allowances))
            own = {kind: limit for kind, limit in allowances.items() if kind in case.machine.kinds}
            self.assertTrue(found.shows(case.machine, case.bad(promise), own))

    def test_no_promise(self):
        case = LinkCase(Link(room=1))
        for promise in ("untold", "", None, 0, ["lost"]):
            with self.assertRaises(NoPromise, msg=promise):
                case.bad(promise)
