"""Readers: point [19]."""

import itertools
import time
import unittest

from allbrokers import readererrors
from allbrokers.errors import BrokerError
from allbrokers.readererrors import BadLane, BadReader
from allbrokers.readers import Alike, Apart, Reader, behind_rows, judge_alike, least
from brute import rng_of

AB = ("a", "b")
ONE = Reader(AB, [{"a": 1, "b": 0}, {"a": 1, "b": 2}, {"a": 1, "b": 0}], ["no", "yes", "no"])


def some_reader(rng, most=6, letters=AB, answers=("y", "n")):
    many = rng.randint(1, most)
    steps = [{letter: rng.randrange(many) for letter in letters} for _ in range(many)]
    return Reader(letters, steps, [rng.choice(answers) for _ in range(many)])


def lanes(letters, most):
    for length in range(most + 1):
        yield from map(list, itertools.product(letters, repeat=length))


def slow_answer(reader, lane):
    state = 0
    for row in lane:
        state = reader.steps[state][row]
    return reader.answers[state]


def slow_least(reader):
    """The least reader by the greatest relation of states with the same answers behind all lanes."""
    states = range(len(reader.steps))
    same = {(p, q) for p in states for q in states if reader.answers[p] == reader.answers[q]}
    while True:
        less = {(p, q) for p, q in same if all((reader.steps[p][x], reader.steps[q][x]) in same for x in reader.letters)}
        if less == same:
            break
        same = less
    found = [0]
    for state in found:
        for letter in reader.letters:
            if not any((reader.steps[state][letter], other) in same for other in found):
                found.append(reader.steps[state][letter])
    number = {p: n for p in states for n, q in enumerate(found) if (p, q) in same}
    steps = [{letter: number[reader.steps[state][letter]] for letter in reader.letters} for state in found]
    return Reader(reader.letters, steps, [reader.answers[state] for state in found])


def cycle(many, letters=AB, yes=()):
    steps = [{letter: (state + 1) % many for letter in letters} for state in range(many)]
    return Reader(letters, steps, ["y" if state in yes else "n" for state in range(many)])


class Errors(unittest.TestCase):
    def test_classes(self):
        names = {"BadReader", "BadLane", "BadRule", "BadQuestion", "BadTimes", "BadDeal", "BadBounds", "NoDeal"}
        found = {name for name, value in vars(readererrors).items() if isinstance(value, type)}
        self.assertEqual(found, names | {"BrokerError"})
        for name in names:
            self.assertEqual(getattr(readererrors, name).__bases__, (BrokerError,))
        self.assertEqual(readererrors.NoDeal(4).tick, 4)


class Readers(unittest.TestCase):
    def test_example(self):
        self.assertEqual([len(least(ONE)), ONE(["b", "a"]), list(behind_rows(ONE, ["a", "b", "b"]))], [2, "yes", [1, 2, 0]])

    def test_attributes(self):
        steps, answers = ({"b": 1, "a": 0}, {"a": 1, "b": 0}), ("x", "y")
        reader = Reader(AB, steps, answers)
        self.assertEqual((reader.letters, reader.steps, reader.answers), (AB, list(steps), list(answers)))
        self.assertEqual((type(reader.letters), type(reader.steps), type(reader.answers), len(reader)), (tuple, list, list, 2))

    def test_given_is_copied(self):
        steps, answers = [{"a": 0, "b": 0}], ["x"]
        reader = Reader(AB, steps, answers)
        steps[0]["a"] = 5
        steps.append({})
        answers[0] = "y"
        self.assertEqual(reader, Reader(AB, [{"a": 0, "b": 0}], ["x"]))

    def test_reading(self):
        self.assertEqual([ONE.after([]), ONE.after(("a",)), ONE.after(["b"], 1), ONE.after(["b", "b"], state=1)], [0, 1, 2, 0])
        self.assertEqual([ONE.answer([]), ONE(()), ONE.answer(["a"]), ONE.answer(["a", "b"])], ["no", "no", "yes", "no"])
        rng = rng_of(19)
        for _ in range(50):
            reader = some_reader(rng)
            for lane in lanes(AB, 5):
                self.assertEqual(reader.answer(lane), slow_answer(reader, lane))
                self.assertEqual(reader(tuple(lane)), slow_answer(reader, lane))
                for state in range(len(reader)):
                    told = [reader.after(lane[:place], state) for place in range(1, len(lane) + 1)]
                    self.assertEqual(list(behind_rows(reader, lane, state=state)), told)

    def test_equality(self):
        self.assertEqual(ONE, Reader(AB, tuple(ONE.steps), tuple(ONE.answers)))
        self.assertNotEqual(ONE, Reader(AB, ONE.steps, ["no", "yes", "yes"]))
        self.assertNotEqual(ONE, Reader(AB, [{**ONE.steps[0], "b": 1}] + ONE.steps[1:], ONE.answers))
        letters = Reader(("a", "c"), [{"a": 0, "c": 0}], ["x"])
        self.assertNotEqual(letters, Reader(("a", "b"), [{"a": 0, "b": 0}], ["x"]))
        self.assertFalse(ONE == None)  # noqa: E711

    def test_one_state_and_many(self):
        one = Reader(("a",), [{"a": 0}], ["x"])
        self.assertEqual((len(one), one(["a"] * 1000)), (1, "x"))
        letters = tuple("abcdefghijkl")
        self.assertEqual(len(cycle(1000, letters)), 1000)

    def test_bad_readers(self):
        good = [{"a": 0, "b": 0}]
        rows = [(["a", "b"], good, ["x"]), ("ab", good, ["x"]), (("b", "a"), good, ["x"]), (("a", "a"), good, ["x"]), ((), [{}], ["x"]),
                (("A",), [{"A": 0}], ["x"]), (("",), [{"": 0}], ["x"]), (("abcdefghi",), [{"abcdefghi": 0}], ["x"]), ((1,), [{1: 0}], ["x"]),
                (tuple("abcdefghijklm"), [{x: 0 for x in "abcdefghijklm"}], ["x"]), (None, good, ["x"]),
                (AB, [], []), (AB, {}, ["x"]), (AB, None, ["x"]), (AB, [None], ["x"]), (AB, [{"a": 0}], ["x"]), (AB, [{"a": 0, "b": 1}], ["x"]),
                (AB, [{"a": 0, "b": -1}], ["x"]), (AB, [{"a": 0, "b": False}], ["x"]), (AB, [{"a": 0, "b": None}], ["x"]),
                (AB, [{"a": 0, "b": 0, "c": 0}], ["x"]), (AB, [{"a": 0, "c": 0}], ["x"]), (AB, [[("a", 0), ("b", 0)]], ["x"]),
                (AB, good, []), (AB, good, ["x", "x"]), (AB, good, "x"), (AB, good, [""]), (AB, good, ["X"]), (AB, good, [None]),
                (AB, good, ["abcdefghi"]), (AB, good, None), (AB, good, {"x": 0}), (AB, good * 1001, ["x"] * 1001)]
        for letters, steps, answers in rows:
            with self.assertRaises(BadReader, msg=(letters, steps)):
                Reader(letters, steps, answers)

    def test_bad_lanes(self):
        for lane in ("ab", None, {"a": 1}, ["c"], ["a", "A"], ["a", 1], ["a", None], [["a"]], ["a", ""], 3, ["ab"]):
            for call in (ONE.after, ONE.answer, ONE):
                with self.assertRaises(BadLane, msg=lane):
                    call(lane)
            generated = behind_rows(ONE, lane)
            with self.assertRaises(BadLane, msg=lane):
                next(generated)

    def test_behind_rows(self):
        for wrong in (None, "reader", {}, Reader, []):
            generated = behind_rows(wrong, "no lane")
            with self.assertRaises(BadReader, msg=wrong):
                next(generated)
        with self.assertRaises(TypeError):
            behind_rows(reader=ONE, lane=[])
        with self.assertRaises(TypeError):
            behind_rows(ONE, [], 0)
        self.assertEqual(list(behind_rows(ONE, [])), [])
        self.assertEqual([list(behind_rows(cycle(3), ["a", "b"])), list(behind_rows(cycle(3), ["a", "b"], state=1))], [[1, 2], [2, 0]])
        lane = ["a", "b"]
        generated = behind_rows(ONE, lane)
        self.assertEqual(next(generated), 1)
        self.assertEqual(list(generated), [2])

    def test_from_what_is_no_state(self):
        for state in (3, -1, None, True, "a"):
            with self.assertRaises(BadLane):
                ONE.after([], state)
            with self.assertRaises(BadLane):
                next(behind_rows(ONE, ["a"], state=state))

    def test_long_lanes(self):
        begin = time.perf_counter()
        lane = ["a", "b"] * 200000
        self.assertEqual(cycle(1000).after(lane), 0)
        self.assertEqual(sum(behind_rows(cycle(4), lane)), 600000)
        self.assertLess(time.perf_counter() - begin, 20)


class Least(unittest.TestCase):
    def test_at_random(self):
        rng = rng_of(191)
        for _ in range(300):
            reader = some_reader(rng, most=7, letters=rng.choice([("a",), AB, ("a", "b", "c")]), answers=rng.choice([("y", "n"), ("y",), ("x", "y", "z")]))
            found = least(reader)
            self.assertEqual(found, slow_least(reader))
            self.assertEqual(least(found), found)
            self.assertTrue(judge_alike(reader, found))

    def test_numbering(self):
        # The state behind the first letter comes first, then that behind the second one, and so on.
        reader = Reader(AB, [{"a": 3, "b": 2}, {"a": 1, "b": 1}, {"a": 2, "b": 1}, {"a": 1, "b": 3}], ["p", "q", "r", "s"])
        expected = Reader(AB, [{"a": 1, "b": 2}, {"a": 3, "b": 1}, {"a": 2, "b": 3}, {"a": 3, "b": 3}], ["p", "s", "r", "q"])
        self.assertEqual(least(reader), expected)

    def test_states_that_no_lane_leads_to(self):
        reader = Reader(("a",), [{"a": 0}, {"a": 2}, {"a": 1}], ["x", "y", "z"])
        self.assertEqual(least(reader), Reader(("a",), [{"a": 0}], ["x"]))

    def test_large(self):
        begin = time.perf_counter()
        letters = tuple("abcdefghijkl")
        self.assertEqual(len(least(cycle(1000, letters, yes=(999,)))), 1000)
        self.assertEqual(least(cycle(1000, letters, yes=range(0, 1000, 5))), cycle(5, letters, yes=(0,)))
        steps = [{letter: min(state + 1, 999) for letter in letters} for state in range(1000)]
        self.assertEqual(len(least(Reader(letters, steps, ["n"] * 999 + ["y"]))), 1000)
        self.assertLess(time.perf_counter() - begin, 20)

    def test_bad_reader(self):
        for wrong in (None, {}, "reader", Reader, [ONE]):
            with self.assertRaises(BadReader):
                least(wrong)


class JudgeAlike(unittest.TestCase):
    def test_at_random(self):
        rng = rng_of(192)
        found_both = {True: 0, False: 0}
        for _ in range(300):
            one, other = some_reader(rng, most=3), some_reader(rng, most=3)
            found = judge_alike(one, other)
            apart = [lane for lane in lanes(AB, 6) if slow_answer(one, lane) != slow_answer(other, lane)]
            found_both[bool(found)] += 1
            self.assertTrue(found.shows(one, other))
            if apart:
                self.assertIsInstance(found, Apart)
                self.assertEqual(found.lane, apart[0])
                self.assertFalse(Alike([(p, q) for p in range(len(one)) for q in range(len(other))]).shows(one, other))
            else:
                self.assertIsInstance(found, Alike)
        self.assertGreater(min(found_both.values()), 20)

    def test_with_more_letters(self):
        rng = rng_of(193)
        for _ in range(60):
            letters = ("aa", "b", "cc")
            one, other = some_reader(rng, most=3, letters=letters), some_reader(rng, most=4, letters=letters)
            apart = [lane for lane in lanes(letters, 5) if slow_answer(one, lane) != slow_answer(other, lane)]
            found = judge_alike(one, other)
            self.assertEqual(found, Apart(apart[0]) if apart else judge_alike(other, one) and found)

    def test_bool_and_equality(self):
        self.assertTrue(judge_alike(ONE, least(ONE)))
        self.assertFalse(judge_alike(ONE, cycle(2)))
        self.assertIsInstance(judge_alike(ONE, cycle(2)).lane, list)
        self.assertEqual(Apart(("a", "b")).lane, ["a", "b"])
        self.assertEqual(Alike(((0, 0),)).pairs, [(0, 0)])

    def test_spoilt(self):
        one, other = cycle(2, yes=(1,)), cycle(4, yes=(1, 3))
        good = [(0, 0), (1, 1), (0, 2), (1, 3)]
        self.assertEqual(sorted(judge_alike(one, other).pairs), sorted(good))
        self.assertTrue(Alike(good[::-1] + good).shows(one, other))
        for pairs in ([], good[1:], good[:-1], good + [(0, 1)], good + [(0, 4)], good + [(2, 0)], good + [(-1, 0)], good + [(0, -2)],
                      [(0, 0)], good[:1] + good[2:]):
            self.assertFalse(Alike(pairs).shows(one, other), pairs)
        self.assertFalse(Alike(good).shows(one, cycle(4, yes=(1,))))
        self.assertTrue(Apart(["a"]).shows(one, cycle(2)))
        self.assertTrue(Apart(["a", "a", "b"]).shows(one, cycle(2)))
        for lane in ([], ["a", "b"], ["c"], ["a", "c"]):
            self.assertFalse(Apart(lane).shows(one, cycle(2)), lane)

    def test_bad_readers(self):
        other = Reader(("a", "c"), [{"a": 0, "c": 0}], ["x"])
        for call in (judge_alike, Alike([(0, 0)]).shows, Apart([]).shows):
            for pair in ((None, ONE), (ONE, None), (ONE, other), (other, ONE), ("a", "b"), (Reader, Reader)):
                with self.assertRaises(BadReader):
                    call(*pair)

    def test_large(self):
        begin = time.perf_counter()
        one, other = cycle(1000), cycle(997)
        found = judge_alike(one, other)
        self.assertEqual(len(found.pairs), 997000)
        self.assertTrue(found.shows(one, other))
        self.assertEqual(len(judge_alike(cycle(1000, yes=(999,)), cycle(999)).lane), 999)
        self.assertLess(time.perf_counter() - begin, 60)
