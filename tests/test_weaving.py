"""Weaving: point [24]."""

import itertools
import time
import unittest

from allbrokers.questions import reader_of
from allbrokers.readererrors import BadLane, BadReader
from allbrokers.readers import Reader
from allbrokers.weaving import Unwoven, Woven, judge_weaving
from brute import rng_of
from slowlanes import AB, ABC, TWELVE, lanes, led, some_of, some_reader


def weavings_of(one, other):
    """All weavings of two lanes."""
    for places in itertools.combinations(range(len(one) + len(other)), len(one)):
        rows, others = iter(one), iter(other)
        yield [next(rows) if place in places else next(others) for place in range(len(one) + len(other))]


def is_woven(reader, ones, others, most):
    """Whether the answer is the same behind all weavings of any two lanes of at most so many rows together."""
    for one in lanes(ones, most):
        for other in lanes(others, most - len(one)):
            if len({reader.answers[led(reader, lane)] for lane in weavings_of(one, other)}) > 1:
                return False
    return True


def first_unwoven(reader, ones, others, most):
    """The first weaving for which the other one has an unlike answer; None if there is none of so many rows."""
    letters = tuple(sorted(ones + others))
    for lane in lanes(letters, most):
        for at in range(len(lane) - 1):
            if lane[at] in ones and lane[at + 1] in others:
                swapped = lane[:at] + [lane[at + 1], lane[at]] + lane[at + 2:]
                if reader.answers[led(reader, lane)] != reader.answers[led(reader, swapped)]:
                    return lane
    return None


def some_sides(rng, letters):
    ones = some_of(rng, letters[:-1])
    return ones, some_of(rng, [letter for letter in letters if letter not in ones])


class Weaving(unittest.TestCase):
    def test_example(self):
        told = judge_weaving(reader_of(AB, [("last", ("a",))]), ("a",), ("b",))
        self.assertEqual([bool(told), told.weavings(), bool(judge_weaving(reader_of(AB, [("count", ("a",), 3)]), ("a",), ("b",)))],
                         [False, [["a", "b"], ["b", "a"]], True])

    def test_at_random(self):
        rng, told = rng_of(241), {True: 0, False: 0}
        for _ in range(400):
            letters = rng.choice([AB, ABC, ("a", "b", "c", "d")])
            reader = some_reader(rng, rng.choice([2, 4]), letters, rng.choice(["yn", "ynnn"]))
            ones, others = some_sides(rng, letters)
            if rng.random() < 0.5:
                ones, others = others, ones
            self.compare(reader, ones, others, told)
        self.assertGreater(min(told.values()), 60)

    def compare(self, reader, ones, others, told):
        found = judge_weaving(reader, ones, others)
        told[bool(found)] += 1
        self.assertTrue(found.shows(reader, ones, others))
        if found:
            self.assertTrue(is_woven(reader, ones, others, 4))
            self.check_pairs(reader, ones, others, found.pairs)
            return
        first, second = found.weavings()
        self.assertEqual(first, found.front + [found.one, found.other] + found.back)
        self.assertEqual(second, found.front + [found.other, found.one] + found.back)
        expected = first_unwoven(reader, ones, others, min(len(first), 6))
        self.assertEqual(expected, first if len(first) <= 6 else None)
        self.assertTrue(found.one in ones and found.other in others)

    def check_pairs(self, reader, ones, others, pairs):
        letters = ones + others
        for front in lanes(letters, 3):
            for one, other in itertools.product(ones, others):
                for back in lanes(letters, 1):
                    self.assertIn((led(reader, front + [one, other] + back), led(reader, front + [other, one] + back)), pairs)

    def test_questions(self):
        woven = [("count", ("a",), 3), ("turns", ("a", "b"), 3, 1), ("seen", ("b",)), ("last", ("c",)), ("count", ("a", "c"), 2)]
        for question in woven:
            self.assertTrue(judge_weaving(reader_of(ABC, [question]), ("a",), ("b",)), question)
        for question in (("last", ("a",)), ("since", ("a",), ("b",)), ("just", ("b",), 2), ("since", ("b",), ("a",))):
            found = judge_weaving(reader_of(ABC, [question]), ("a",), ("b",))
            self.assertFalse(found, question)
            self.assertNotIn("c", found.weavings()[0])
        self.assertEqual(judge_weaving(reader_of(AB, [("just", ("a",), 3)]), ("b",), ("a",)).weavings(), [["b", "a", "a", "a"], ["a", "b", "a", "a"]])

    def test_first_weaving_by_another_split(self):
        # Both a b a and b a a are weavings, of whose the first one as a list is told.
        rng = rng_of(242)
        longer = 0
        for _ in range(500):
            reader = some_reader(rng, 6, AB, "ynnnnn")
            found = judge_weaving(reader, ("a",), ("b",))
            if not found and len(found.weavings()[0]) > 3:
                longer += 1
                self.assertEqual(found.weavings()[0], first_unwoven(reader, ("a",), ("b",), len(found.weavings()[0])))
        self.assertGreater(longer, 10)

    def test_letters_that_are_on_no_side(self):
        # The letter c would lead to the state in which the order tells.
        steps = [{"a": 0, "b": 0, "c": 1}, {"a": 2, "b": 1, "c": 1}, {"a": 2, "b": 2, "c": 2}]
        reader = Reader(ABC, steps, ["x", "y", "z"])
        self.assertTrue(judge_weaving(reader, ("a",), ("b",)))
        self.assertFalse(judge_weaving(reader, ("a",), ("c",)))
        self.assertEqual(judge_weaving(reader, ("a",), ("b",)).pairs, [(0, 0)])

    def test_states_that_are_the_same(self):
        steps = [{"a": 1, "b": 2}, {"a": 3, "b": 3}, {"a": 4, "b": 4}, {"a": 3, "b": 4}, {"a": 4, "b": 3}]
        reader = Reader(AB, steps, ["n", "n", "n", "y", "y"])
        found = judge_weaving(reader, ("a",), ("b",))
        self.assertEqual(sorted(found.pairs), [(3, 3), (3, 4), (4, 3), (4, 4)])

    def test_spoilt_pairs(self):
        reader = reader_of(AB, [("count", ("a",), 1)])
        good = [(1, 1)]
        self.assertEqual(judge_weaving(reader, ("a",), ("b",)), Woven(good))
        self.assertTrue(Woven(((1, 1), (0, 0), (1, 1))).shows(reader, ("a",), ("b",)))
        for pairs in ([], [(0, 0)], good + [(0, 1)], good + [(1, 0)], good + [(2, 2)], good + [(2, 1)], good + [(-1, -1)], good + [(1, 2)], good + [(-1, 1)], good + [(1, -1)]):
            self.assertFalse(Woven(pairs).shows(reader, ("a",), ("b",)), pairs)
        self.assertFalse(Woven(good).shows(reader_of(AB, [("count", ("a",), 2)]), ("a",), ("b",)))
        # Each state that lanes lead to must have its pairs, and all letters must lead on to pairs.
        two = reader_of(AB, [("count", ("a",), 2)])
        every = [(1, 1), (2, 2)]
        self.assertTrue(Woven(every).shows(two, ("a",), ("b",)))
        for pairs in (every[:1], every[1:], every + [(0, 1)]):
            self.assertFalse(Woven(pairs).shows(two, ("a",), ("b",)), pairs)
        one = Reader(AB, [{"a": 1, "b": 1}, {"a": 1, "b": 1}, {"a": 3, "b": 2}, {"a": 2, "b": 3}], ["x"] * 4)
        self.assertTrue(Woven([(1, 1)]).shows(one, ("a",), ("b",)))
        self.assertFalse(Woven([(1, 1), (2, 2)]).shows(one, ("a",), ("b",)))
        self.assertTrue(Woven([(1, 1), (2, 2), (3, 3)]).shows(one, ("a",), ("b",)))
        self.assertFalse(Woven([(1, 1), (2, 3)]).shows(one, ("a",), ("b",)))

    def test_spoilt_weavings(self):
        reader = reader_of(ABC, [("last", ("a",))])
        self.assertTrue(Unwoven([], "a", "b", []).shows(reader, ("a",), ("b",)))
        self.assertTrue(Unwoven(("a", "b"), "a", "b", ()).shows(reader, ("a",), ("b",)))
        for front, one, other, back in (([], "a", "b", ["a"]), ([], "b", "a", []), ([], "a", "a", []), ([], "b", "b", []), (["c"], "a", "b", []), ([], "a", "c", []),
                                        ([], "a", "b", ["c"]), ([], "", "b", []), (["d"], "a", "b", []), ([], "c", "b", [])):
            self.assertFalse(Unwoven(front, one, other, back).shows(reader, ("a",), ("b",)), (front, one, other, back))
        self.assertTrue(Unwoven([], "b", "a", []).shows(reader, ("b",), ("a",)))
        told = Unwoven(("a",), "a", "b", ("b",))
        self.assertEqual((told.front, told.one, told.other, told.back, told.weavings()), (["a"], "a", "b", ["b"], [["a", "a", "b", "b"], ["a", "b", "a", "b"]]))
        told.weavings()[0].append("a")
        self.assertEqual(told.weavings()[0], ["a", "a", "b", "b"])

    def test_errors(self):
        reader = reader_of(ABC, [("last", ("a",))])
        for call in (judge_weaving, Woven([]).shows, Unwoven([], "a", "b", []).shows):
            for wrong in (None, Reader, "reader"):
                with self.assertRaises(BadReader):
                    call(wrong, (), None)
            for some in ((), None, "a", ["a"], ("b", "a"), ("a", "a"), ("d",), (1,), {"a": 1}, ("a", None)):
                with self.assertRaises(BadLane, msg=some):
                    call(reader, some, ("c",))
                with self.assertRaises(BadLane, msg=some):
                    call(reader, ("c",), some)
            for ones, others in ((("a",), ("a",)), (("a", "b"), ("b", "c")), (("a", "b", "c"), ("c",))):
                with self.assertRaises(BadLane):
                    call(reader, ones, others)

    def test_large(self):
        begin = time.perf_counter()
        cycle = Reader(TWELVE, [{letter: (state + 1 + place % 2) % 1000 for place, letter in enumerate(TWELVE)} for state in range(1000)], ["y"] + ["n"] * 999)
        found = judge_weaving(cycle, TWELVE[:6], TWELVE[6:])
        self.assertEqual(len(found.pairs), 1000)
        self.assertTrue(found.shows(cycle, TWELVE[:6], TWELVE[6:]))
        rng = rng_of(243)
        steps = [{letter: rng.randrange(1000) for letter in TWELVE} for _ in range(1000)]
        found = judge_weaving(Reader(TWELVE, steps, ["x"] * 999 + ["y"]), TWELVE[:6], TWELVE[6:])
        self.assertFalse(found)
        # All answers are alike, so that all pairs that are met are told.
        plain = Reader(AB, [{letter: row[letter] for letter in AB} for row in steps], ["x"] * 1000)
        found = judge_weaving(plain, ("a",), ("b",))
        self.assertTrue(found.shows(plain, ("a",), ("b",)))
        late = Reader(AB, [{"a": state + 1, "b": state + 1} for state in range(996)] + [{"a": 997, "b": 998}, {"a": 997, "b": 999}, {"a": 998, "b": 998}, {"a": 999, "b": 999}],
                      ["n"] * 999 + ["y"])
        self.assertEqual(judge_weaving(late, ("a",), ("b",)).weavings()[0], ["a"] * 997 + ["b"])
        self.assertLess(time.perf_counter() - begin, 60)
