"""Routes: point [13]."""

import itertools
import unittest

from allbrokers.choices import judge
from allbrokers.errors import BadSettings, NoPromise, TooLarge
from allbrokers.promises import dead_states
from allbrokers.routes import Case, Route
from brute import rng_of
from slowparts import slow_route

VALUES = {"repeats": (True, False), "room": (1, 2), "need": (0, 1, 2, 3), "copies": (1, 2, 3), "choice": ("any", "longest"),
          "window": (0, 1, 2, None), "reads": ("any", "safe"), "place": ("before", "after", "with"), "outlet": (0, 1, 2, None)}


def some_settings(rng):
    told = {name: rng.choice(values) for name, values in VALUES.items()}
    return {**told, "need": min(told["need"], told["copies"])}


class Settings(unittest.TestCase):
    def test_without_any(self):
        expected = {"repeats": True, "room": 1, "need": 1, "copies": 1, "choice": "longest", "window": 0, "reads": "any",
                    "place": "after", "outlet": 0}
        self.assertEqual(Route().settings(), expected)
        self.assertEqual(list(Route().settings()), list(expected))
        self.assertIs(Route().settings()["repeats"], True)

    def test_all_that_are_told(self):
        for row in itertools.product(*VALUES.values()):
            told = dict(zip(VALUES, row))
            if told["need"] <= told["copies"]:
                self.assertEqual(Route(**told).settings(), told)

    def test_settings_are_new(self):
        route = Route()
        route.settings()["room"] = 2
        self.assertEqual(route.settings()["room"], 1)

    def test_equality(self):
        self.assertTrue(Route(outlet=None) == Route(outlet=None, room=1))
        for name, values in VALUES.items():
            for value in values:
                if name != "need" or value <= 1:
                    same = value == Route().settings()[name] and type(value) is type(Route().settings()[name])
                    self.assertEqual(Route(**{name: value}) == Route(), same, (name, value))
        self.assertFalse(Route() == Route().settings())
        self.assertTrue(Route() != None)  # noqa: E711

    def test_by_name_alone(self):
        with self.assertRaises(TypeError):
            Route(True)

    def test_bad_settings(self):
        wrong = {"repeats": (1, 0, None, "yes"), "room": (0, 3, True, None, "1"), "need": (-1, 2, True, None),
                 "copies": (0, 4, True, None), "choice": ("all", None, True, 0), "window": (3, -1, False, "all"),
                 "reads": ("longest", None, True), "place": ("behind", None), "outlet": (3, True, "0", [])}
        for name, values in wrong.items():
            for value in values:
                with self.assertRaises(BadSettings, msg=(name, value)) as caught:
                    Route(**{name: value})
                self.assertEqual(caught.exception.name, name, value)

    def test_the_first_bad_setting(self):
        order = ["repeats", "room", "copies", "need", "choice", "window", "reads", "place", "outlet"]
        for at, name in enumerate(order):
            with self.assertRaises(BadSettings) as caught:
                Route(**{other: [] for other in order[at:]})
            self.assertEqual(caught.exception.name, name)
        for told, name in (({"need": 2, "copies": 4}, "copies"), ({"need": 3, "copies": 2}, "need"), ({"need": 4, "copies": 3}, "need")):
            with self.assertRaises(BadSettings) as caught:
                Route(**told)
            self.assertEqual(caught.exception.name, name)


class Machines(unittest.TestCase):
    def check(self, told, most=400):
        """Compare with the slow definition; False where the machine is too large."""
        try:
            case = Case(Route(**told))
        except TooLarge:
            return False
        if len(case.machine) > most:
            return False
        states, steps = slow_route(Route(**told).settings())
        self.assertEqual(case.states, states, told)
        self.assertEqual(set(case.machine.steps), steps, told)
        self.assertEqual(len(case.machine), len(states))
        self.assertEqual(case.states, case.states[:1] + sorted(case.states[1:]))
        return True

    def test_each_setting_alone(self):
        for name, values in VALUES.items():
            for value in values:
                if name != "need" or value <= 1:
                    told = {name: value, "repeats": value if name == "repeats" else False}
                    self.assertTrue(self.check(told, most=3000), (name, value))

    def test_two_settings(self):
        for (name, values), (other, more) in itertools.combinations(VALUES.items(), 2):
            for value, worth in itertools.product(values, more):
                told = {"repeats": False, "window": None, "outlet": None, name: value, other: worth}
                if told.get("need", 1) <= told.get("copies", 1):
                    self.check(told)

    def test_copies(self):
        many = 0
        for copies, need, choice, reads, place in itertools.product((2, 3), (0, 1, 2, 3), ("any", "longest"), ("any", "safe"), VALUES["place"]):
            if need <= copies:
                told = {"copies": copies, "need": need, "choice": choice, "reads": reads, "place": place}
                many += self.check({**told, "repeats": False, "window": None, "outlet": None}, most=500)
        self.assertGreater(many, 50)

    def test_safe_reads(self):
        route = {"copies": 2, "need": 2, "repeats": False, "window": None, "outlet": None}
        case = Case(Route(**route, reads="safe"))

        def is_read_early(states, steps):
            return any(step[2] == "out" and states[step[0]][1] == (1, 0) for step in steps)

        self.assertFalse(is_read_early(case.states, case.machine.steps))
        case = Case(Route(**route, reads="any"))
        self.assertTrue(is_read_early(case.states, case.machine.steps))
        case = Case(Route(**{**route, "need": 0}, reads="safe"))
        self.assertTrue(is_read_early(case.states, case.machine.steps))

    def test_at_random(self):
        rng, many = rng_of(13), 0
        while many < 60:
            many += self.check(some_settings(rng))

    def test_first_state(self):
        for copies in (1, 2, 3):
            case = Case(Route(copies=copies, repeats=False))
            self.assertEqual(case.states[0], ((0, 0, 0, 0), (0,) * copies, -1, (0, 0), (0, -1)))

    def test_small_one(self):
        # Nothing is remembered or repeated, and no answer is waited for.
        case = Case(Route(repeats=False, need=0, place="with"))
        told = [(case.states[step[0]], step[1], step[2], case.states[step[3]]) for step in case.machine.behind(0)]
        first = ((0, 0, 0, 0), (0,), -1, (0, 0), (0, -1))
        sent = ((2, 1, 0, 0), (0,), -1, (0, 0), (0, -1))
        self.assertEqual(told, [(first, "", "", sent), (first, "leader", "", first)])
        told = [(step[1], step[2], case.states[step[3]]) for step in case.machine.behind(case.states.index(sent))]
        taken = ((2, 0, 0, 0), (1,), -1, (0, 0), (0, -1))
        lost = ((2, 0, 0, 0), (0,), -1, (0, 0), (0, -1))
        self.assertEqual(sorted(told), sorted([("", "", taken), ("call", "", lost), ("leader", "", sent)]))
        told = [(step[1], step[2], case.states[step[3]]) for step in case.machine.behind(case.states.index(taken))]
        out = ((2, 0, 0, 0), (1,), -1, (1, 1), (1, -1))
        self.assertEqual(sorted(told), sorted([("", "out", out), ("leader", "", lost)]))

    def test_kinds_and_words(self):
        machine = Case(Route(room=2, window=1, outlet=1)).machine
        self.assertEqual(machine.kinds, ["answer", "call", "double", "inrow", "leader", "outrow", "reader", "sender"])
        self.assertEqual(machine.words, ["out", "told"])
        machine = Case(Route(copies=2, need=0, window=None, place="with")).machine
        self.assertEqual(machine.kinds, ["call", "copy", "leader"])
        self.assertEqual(machine.words, ["out"])
        self.assertEqual(Case(Route(repeats=False)).machine.kinds, ["answer", "call", "leader", "reader", "sender"])

    def test_too_large(self):
        with self.assertRaises(TooLarge):
            Case(Route(copies=3, room=2, need=3, window=2, outlet=2))


class Promises(unittest.TestCase):
    def test_examples(self):
        found = [len(judge(Route(repeats=False), "doubled", {"reader": 1}).run),
                 bool(judge(Route(outlet=None), "doubled", {"reader": None}))]
        self.assertEqual(found, [5, True])
        self.assertFalse(judge(Route(place="before", repeats=False), "lost", {"reader": 1}))

    def test_states_of_promises(self):
        rng = rng_of(14)
        for _ in range(25):
            told = {**some_settings(rng), "room": 1, "copies": 1, "need": 1, "outlet": 0, "place": "with"}
            case = Case(Route(**told))
            out = tuple(n for n, state in enumerate(case.states) if state[4][0] in (1, 2))
            self.assertEqual(case.out(), out)
            self.assertEqual(case.bad("doubled"), tuple(n for n, state in enumerate(case.states) if state[4][0] == 2))
            dead = dead_states(case.machine, out)
            self.assertEqual(case.bad("lost"), dead)
            self.assertEqual(case.bad("untold"), tuple(n for n in dead if case.states[n][0][0] == 2))

    def test_kept_and_broken(self):
        rows = [
            (Route(repeats=False), "doubled", {}, True),
            (Route(repeats=False), "doubled", {"reader": 1}, False),
            (Route(repeats=False, place="with"), "doubled", {"reader": None}, True),
            (Route(), "doubled", {}, False),
            (Route(window=None), "doubled", {}, True),
            (Route(window=1), "doubled", {"inrow": 1}, False),
            (Route(window=2), "doubled", {"inrow": 1}, True),
            (Route(window=2), "doubled", {"inrow": 2}, False),
            (Route(outlet=2), "doubled", {"outrow": 1}, True),
            (Route(outlet=2), "doubled", {"outrow": 2}, False),
            (Route(repeats=False), "lost", {}, True),
            (Route(repeats=False), "lost", {"call": 1}, False),
            (Route(), "lost", {"call": None}, True),
            (Route(repeats=False), "untold", {"call": None}, True),
            (Route(repeats=False, need=0), "untold", {"call": 1}, False),
            (Route(), "lost", {"leader": 1}, False),
            (Route(copies=2, repeats=False), "untold", {"leader": 1}, False),
            (Route(copies=2, need=2, repeats=False), "untold", {"leader": 1}, True),
            (Route(copies=2, need=2, repeats=False), "untold", {"leader": 2}, False),
            (Route(copies=3, need=3, repeats=False, window=None, outlet=None), "untold", {"leader": 2}, True),
            (Route(copies=3, need=2, repeats=False, window=None, outlet=None), "untold", {"leader": 1}, True),
            (Route(copies=3, need=2, repeats=False, window=None, outlet=None, choice="any"), "untold", {"leader": 1}, False),
            (Route(place="before", repeats=False), "lost", {"reader": 1}, False),
            (Route(place="before", repeats=False), "doubled", {"reader": None}, True),
        ]
        for route, promise, allowances, is_kept in rows:
            case = Case(route)
            found = judge(route, promise, allowances)
            self.assertEqual(bool(found), is_kept, (route.settings(), promise, allowances))
            own = {kind: limit for kind, limit in allowances.items() if kind in case.machine.kinds}
            self.assertTrue(found.shows(case.machine, case.bad(promise), own))

    def test_no_promise(self):
        case = Case(Route(repeats=False))
        for promise in ("disorder", "", "Doubled", None, 0, ("lost",), ["lost"]):
            with self.assertRaises(NoPromise, msg=promise):
                case.bad(promise)
