"""Last rows: point [23]."""

import time
import unittest

from allbrokers.lastrows import LastRows, Never, last_rows
from allbrokers.questions import reader_of
from allbrokers.readererrors import BadReader
from allbrokers.readers import Reader
from brute import rng_of
from slowlanes import AB, ABC, TWELVE, lanes, led, reached_states, some_reader


def some_definite(rng, letters, most):
    """A reader whose answer hangs on few last rows: each letter leads to higher states, or to one and the same."""
    many = rng.randint(1, most)
    steps = [{letter: rng.randint(min(state + 1, many - 1), many - 1) for letter in letters} for state in range(many)]
    goal = rng.randrange(many)
    for row in steps:
        row[letters[0]] = goal
    return Reader(letters, steps, [rng.choice("yn") for _ in range(many)])


def hangs_on(reader, number, more):
    """Whether lanes with the same last rows, and up to so many others in front, have the same answer."""
    for back in lanes(reader.letters, number, number):
        if len({reader.answers[led(reader, front + back)] for front in lanes(reader.letters, more)}) > 1:
            return False
    return True


def slow_layers(reader, number):
    """The layers by trying all lanes of so many rows from all states that lanes lead to."""
    states = reached_states(reader)[0]
    for length in range(number + 1):
        found = set()
        for back in lanes(reader.letters, length, length):
            ends = [led(reader, back, state) for state in states]
            found |= {(low, high) for low in ends for high in ends if low < high}
        yield sorted(found)


class LastRowsFound(unittest.TestCase):
    def test_example(self):
        self.assertEqual([last_rows(reader_of(AB, [("just", ("a",), 2)])).number, bool(last_rows(reader_of(AB, [("seen", ("a",))])))], [2, False])

    def test_at_random(self):
        rng, told = rng_of(231), {True: 0, False: 0}
        numbers = []
        for _ in range(400):
            letters = rng.choice([("a",), AB, AB, ABC])
            reader = some_reader(rng, 4, letters) if rng.random() < 0.4 else some_definite(rng, letters, 5)
            found = last_rows(reader)
            told[bool(found)] += 1
            self.assertTrue(found.shows(reader))
            if found:
                numbers.append(found.number)
                self.assertTrue(hangs_on(reader, found.number, 4))
                self.assertFalse(found.number > 0 and hangs_on(reader, found.number - 1, 4))
                self.assertEqual(found.layers, list(slow_layers(reader, found.number)))
            else:
                self.check_never(reader, found)
        self.assertGreater(min(told.values()), 40)
        self.assertGreaterEqual(set(numbers), {0, 1, 2, 3})

    def check_never(self, reader, found):
        self.assertTrue(found.loop)
        for times in range(4):
            one, other = found.front + found.loop * times, found.other + found.loop * times
            self.assertEqual([led(reader, one), led(reader, other)], [led(reader, found.front), led(reader, found.other)])
            self.assertNotEqual(reader.answer(one + found.back), reader.answer(other + found.back))
        self.assertFalse(any(hangs_on(reader, number, 3) for number in range(4)))

    def test_questions(self):
        for number in range(1, 6):
            self.assertEqual(last_rows(reader_of(ABC, [("just", ("a", "b"), number)])).number, number)
        self.assertEqual(last_rows(reader_of(AB, [("last", ("a",))])).number, 1)
        self.assertEqual(last_rows(reader_of(AB, [("just", ("a",), 4), ("last", ("b",))])).number, 4)
        self.assertEqual(last_rows(reader_of(AB, [("since", ("a",), ("b",))])).number, 1)
        for question in (("seen", ("a",)), ("turns", ("b",), 2, 0), ("count", ("a",), 1), ("since", ("a",), ("c",))):
            self.assertFalse(last_rows(reader_of(ABC, [question])), question)

    def test_one_state_and_states_that_are_the_same(self):
        one = Reader(("a",), [{"a": 0}], ["x"])
        self.assertEqual(last_rows(one), LastRows(0, [[]]))
        two = Reader(("a",), [{"a": 1}, {"a": 0}], ["x", "x"])
        self.assertEqual(last_rows(two), LastRows(0, [[(0, 1)]]))
        # The states 1 and 2 are the same, and never led to one: the layers have them all the same.
        three = Reader(AB, [{"a": 1, "b": 0}, {"a": 2, "b": 0}, {"a": 1, "b": 0}], ["n", "y", "y"])
        self.assertEqual(last_rows(three), LastRows(1, [[(0, 1), (0, 2), (1, 2)], [(1, 2)]]))
        # No lane leads to the last state.
        self.assertEqual(last_rows(Reader(("a",), [{"a": 0}, {"a": 1}], ["x", "y"])), LastRows(0, [[]]))

    def test_lists(self):
        found = LastRows(1, (((0, 1),), ()))
        self.assertEqual(found.layers, [[(0, 1)], []])
        self.assertTrue(found)
        never = Never(("a",), ("b",), ("a",), ("b",))
        self.assertEqual([never.front, never.other, never.loop, never.back, bool(never)], [["a"], ["b"], ["a"], ["b"], False])

    def test_spoilt_layers(self):
        reader = reader_of(AB, [("just", ("a",), 2)])
        good = last_rows(reader)
        self.assertEqual((good.number, good.layers), (2, [[(0, 1), (0, 2), (1, 2)], [(1, 2)], []]))
        layers = good.layers
        rows = [(1, layers[:2]), (1, layers), (3, layers), (3, layers + [[]]), (2, layers[:2]), (2, []), (-1, []), (-1, layers), (0, []), (0, layers[:1]),
                (2, [[(0, 1), (0, 2)], [(1, 2)], []]), (2, [[(0, 2), (0, 1), (1, 2)], [(1, 2)], []]), (2, [[(0, 1), (0, 2), (2, 1)], [(1, 2)], []]),
                (2, [layers[0], [(0, 1), (1, 2)], []]), (2, [layers[0], [], []]), (2, [layers[0], [(1, 2)], [(1, 2)]]), (2, [layers[0], [(1, 2), (1, 2)], []]),
                (2, [layers[0] + [(3, 4)], [(1, 2)], []]), (10 ** 30, layers), (2, [layers[0], [(1, 2, 0)], []])]
        for number, told in rows:
            self.assertFalse(LastRows(number, told).shows(reader), (number, told))
        self.assertFalse(good.shows(reader_of(AB, [("just", ("a",), 3)])))
        self.assertFalse(good.shows(reader_of(AB, [("just", ("a",), 1)])))
        self.assertFalse(good.shows(reader_of(AB, [("seen", ("b",))])))
        self.assertTrue(LastRows(2, tuple(tuple(layer) for layer in layers)).shows(reader))

    def test_spoilt_lanes(self):
        reader = reader_of(AB, [("seen", ("a",))])
        self.assertTrue(Never([], ["a"], ["b"], []).shows(reader))
        self.assertTrue(Never(["a", "b"], ["b"], ["b", "b"], ["b"]).shows(reader))
        for lanes_told in (([], ["a"], [], []), ([], ["a"], ["a"], []), ([], ["a"], ["b"], ["a"]), ([], ["b"], ["b"], []), (["a"], ["b", "a"], ["b"], []),
                           (["c"], ["a"], ["b"], []), ([], ["c"], ["b"], []), ([], ["a"], ["c"], []), ([], ["a"], ["b"], ["c"]), ([], ["a"], ["a", "b"], [])):
            self.assertFalse(Never(*lanes_told).shows(reader), lanes_told)

    def test_errors(self):
        for call in (last_rows, LastRows(0, [[]]).shows, Never([], ["a"], ["b"], []).shows):
            for wrong in (None, Reader, "reader", [reader_of(AB, [("seen", ("a",))])]):
                with self.assertRaises(BadReader):
                    call(wrong)

    def test_large(self):
        begin = time.perf_counter()
        cycle = Reader(TWELVE, [{letter: (state + 1) % 1000 for letter in TWELVE} for state in range(1000)], ["y"] + ["n"] * 999)
        found = last_rows(cycle)
        self.assertIsInstance(found, Never)
        self.assertTrue(found.shows(cycle))
        # Behind three rows all is as it was: 10 letters lead to digits that are moved on.
        digits = Reader(TWELVE, [{letter: (state * 10 + min(place, 9)) % 1000 for place, letter in enumerate(TWELVE)} for state in range(1000)],
                        ["".join("abcdefghij"[int(sign)] for sign in f"{state:03}") for state in range(1000)])
        found = last_rows(digits)
        self.assertEqual((found.number, [len(layer) for layer in found.layers]), (3, [499500, 49500, 4500, 0]))
        self.assertTrue(found.shows(digits))
        chain = Reader(AB, [{"a": min(state + 1, 149), "b": 0} for state in range(150)], ["n"] * 149 + ["y"])
        found = last_rows(chain)
        self.assertEqual(found.number, 149)
        self.assertTrue(found.shows(chain))
        self.assertLess(time.perf_counter() - begin, 60)

    def test_long_loops(self):
        begin = time.perf_counter()
        rng = rng_of(233)
        steps = [dict(zip(AB, row)) for row in zip(rng.sample(range(1000), 1000), rng.sample(range(1000), 1000))]
        reader = Reader(AB, steps, [rng.choice("yn") for _ in range(1000)])
        found = last_rows(reader)
        self.assertIsInstance(found, Never)
        self.assertTrue(found.shows(reader))
        self.assertLess(time.perf_counter() - begin, 60)
