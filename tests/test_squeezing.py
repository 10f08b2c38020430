"""Squeezing: point [21]."""

import time
import unittest

from allbrokers.questions import reader_of
from allbrokers.readererrors import BadLane, BadReader, BadRule
from allbrokers.readers import Reader
from allbrokers.squeezing import Rule, Seen, Unseen, judge_rule
from brute import rng_of
from slowlanes import AB, ABC, TWELVE, lanes, led, reached_states, slow_kept, slow_squeezed, slow_view, some_of, some_reader, some_rule

RULE = Rule(AB, [{"a": 1, "b": 0}, {"a": 1, "b": 1}], [(1, "a")])


def first_seen(rule, reader, most):
    """The first lane that is seen with the first front, by trying all with at most so many rows; None if there is none."""
    states, fronts = reached_states(reader)
    for lane in lanes(rule.letters, most):
        left = slow_squeezed(rule, lane)
        for state, front in zip(states, fronts):
            if reader.answers[led(reader, lane, state)] != reader.answers[led(reader, left, state)]:
                return front, lane
    return None


class Rules(unittest.TestCase):
    def test_example(self):
        self.assertEqual([RULE.squeezed(["a", "b", "a", "b"]), bool(judge_rule(RULE, reader_of(AB, [("seen", ("a",))])))], [["b", "a", "b"], True])
        self.assertEqual(judge_rule(RULE, reader_of(AB, [("count", ("a",), 2)])).lane, ["a", "a"])

    def test_kept_at_random(self):
        rng = rng_of(21)
        for _ in range(100):
            rule = some_rule(rng, letters=rng.choice([("a",), AB, ABC]))
            for lane in lanes(rule.letters, 5):
                self.assertEqual(rule.kept(lane), slow_kept(rule, lane))
                self.assertEqual(rule.kept(tuple(lane)), slow_kept(rule, lane))
                self.assertEqual(rule.squeezed(tuple(lane)), slow_squeezed(rule, lane))

    def test_read_from_the_end(self):
        # A row is dropped if just one row is behind it, dropped or not.
        rule = Rule(("a",), [{"a": 1}, {"a": 2}, {"a": 2}], [(1, "a")])
        self.assertEqual([rule.kept(["a"] * many) for many in range(5)], [[], [0], [1], [0, 2], [0, 1, 3]])

    def test_attributes(self):
        rule = Rule(AB, ({"b": 1, "a": 0}, {"a": 1, "b": 0}), ((1, "b"), (0, "a"), (1, "a"), (0, "a")))
        self.assertEqual((rule.letters, rule.steps, rule.drops), (AB, [{"a": 0, "b": 1}, {"a": 1, "b": 0}], [(0, "a"), (1, "a"), (1, "b")]))
        self.assertEqual((type(rule.letters), type(rule.steps), type(rule.drops)), (tuple, list, list))
        self.assertIsInstance(rule.squeezed(("a",)), list)

    def test_equality(self):
        self.assertEqual(RULE, Rule(AB, tuple(RULE.steps), ((1, "a"), (1, "a"))))
        self.assertNotEqual(RULE, Rule(AB, RULE.steps, [(0, "a")]))
        self.assertNotEqual(RULE, Rule(AB, RULE.steps, []))
        self.assertNotEqual(RULE, Rule(AB, [RULE.steps[0]] * 2, [(1, "a")]))
        self.assertNotEqual(Rule(("a", "b"), [{"a": 0, "b": 0}], []), Rule(("a", "c"), [{"a": 0, "c": 0}], []))
        self.assertFalse(RULE == Reader(AB, RULE.steps, ["x", "y"]))
        self.assertFalse(RULE == None)  # noqa: E711

    def test_given_is_copied(self):
        steps, drops = [{"a": 0, "b": 0}], [(0, "a")]
        rule = Rule(AB, steps, drops)
        steps[0]["a"] = 5
        drops.append((0, "b"))
        self.assertEqual((rule.steps, rule.drops, rule.kept(["a", "b"])), ([{"a": 0, "b": 0}], [(0, "a")], [1]))

    def test_bad_rules(self):
        good = [{"a": 0, "b": 0}]
        rows = [(["a", "b"], good, []), (("b", "a"), good, []), ((), [{}], []), (None, good, []), (AB, [], []), (AB, None, []), (AB, [{"a": 0}], []),
                (AB, [{"a": 0, "b": 1}], []), (AB, [{"a": 0, "b": True}], []), (AB, good * 1001, []), (AB, good, None), (AB, good, {}), (AB, good, "a"),
                (AB, good, [(1, "a")]), (AB, good, [(-1, "a")]), (AB, good, [(0, "c")]), (AB, good, [[0, "a"]]), (AB, good, [(0,)]), (AB, good, [(0, "a", 1)]),
                (AB, good, [(False, "a")]), (AB, good, [("a", 0)]), (AB, good, [None]), (AB, good, [(0, None)]), (AB, good, [(0, ["a"])]), (AB, good, {(0, "a")})]
        for letters, steps, drops in rows:
            with self.assertRaises(BadRule, msg=(letters, steps, drops)):
                Rule(letters, steps, drops)

    def test_bad_lanes(self):
        for lane in (None, "ab", ["c"], {"a": 1}, [1], [["a"]], 3, ["a", None]):
            for call in (RULE.kept, RULE.squeezed):
                with self.assertRaises(BadLane, msg=lane):
                    call(lane)

    def test_large(self):
        steps = [{letter: (state + 1) % 1000 for letter in TWELVE} for state in range(1000)]
        rule = Rule(TWELVE, steps, [(state, letter) for state in range(1, 1000) for letter in TWELVE])
        self.assertEqual(rule.kept(list(TWELVE) * 10000), list(range(119999 - 1000 * 119, 120000, 1000)))


class Judging(unittest.TestCase):
    def test_at_random(self):
        rng = rng_of(212)
        told = {True: 0, False: 0}
        for _ in range(300):
            letters = rng.choice([("a",), AB, AB, ABC])
            rule, reader = some_rule(rng, 3, letters, part=0.3), some_reader(rng, 3, letters)
            found = judge_rule(rule, reader)
            told[bool(found)] += 1
            self.assertTrue(found.shows(rule, reader))
            expected = first_seen(rule, reader, 5)
            if expected:
                self.assertIsInstance(found, Seen)
                self.assertEqual((found.front, found.lane), expected)
            elif found:
                self.check_triples(rule, reader, found.triples)
            else:
                self.assertGreater(len(found.lane), 5)
        self.assertGreater(min(told.values()), 40)

    def check_triples(self, rule, reader, triples):
        states = reached_states(reader)[0]
        self.assertIn((0, slow_view(reader, states, []), slow_view(reader, states, [])), triples)
        found = {(led(rule, lane[::-1]), slow_view(reader, states, lane), slow_view(reader, states, slow_squeezed(rule, lane))) for lane in lanes(rule.letters, 4)}
        self.assertLessEqual(found, set(triples))
        self.assertTrue(all(one == other for _, one, other in triples))
        self.assertTrue(all(isinstance(triple, tuple) and isinstance(triple[1], tuple) for triple in triples))

    def test_questions(self):
        rng = rng_of(213)
        for _ in range(60):
            heads = [("last", some_of(rng, AB)), ("seen", some_of(rng, AB)), ("just", some_of(rng, AB), 2), ("turns", some_of(rng, AB), 2, 0)]
            reader, rule = reader_of(AB, [rng.choice(heads)]), some_rule(rng, 3, part=0.2)
            found, expected = judge_rule(rule, reader), first_seen(rule, reader, 6)
            self.assertEqual(found if expected else bool(found), Seen(*expected) if expected else True)

    def test_first_lane_is_ordered_from_its_front(self):
        # Rows are dropped behind which just one row stands, if this is an a: so ba is seen, and aa is not, since its front is an a, too.
        reader = reader_of(AB, [("seen", ("b",))])
        rule = Rule(AB, [{"a": 1, "b": 2}, {"a": 2, "b": 2}, {"a": 2, "b": 2}], [(1, "a"), (1, "b")])
        found = judge_rule(rule, reader)
        self.assertEqual((found.front, found.lane), ([], ["b", "a"]))
        # Of two lanes of three rows the first one is told, not the one that is met first from the end.
        reader = reader_of(AB, [("turns", AB, 2, 0)])
        rule = Rule(AB, [{"a": 1, "b": 2}, {"a": 3, "b": 4}, {"a": 4, "b": 3}, {"a": 5, "b": 5}, {"a": 5, "b": 5}, {"a": 5, "b": 5}], [(4, "a"), (3, "b")])
        self.assertEqual(judge_rule(rule, reader).lane, first_seen(rule, reader, 3)[1])
        self.assertEqual(judge_rule(rule, reader).lane, ["a", "a", "b"])

    def test_first_front(self):
        # The row is seen behind two b alone.
        reader = Reader(AB, [{"a": 0, "b": 1}, {"a": 0, "b": 2}, {"a": 3, "b": 2}, {"a": 3, "b": 3}], ["n", "n", "n", "y"])
        found = judge_rule(Rule(AB, [{"a": 0, "b": 0}], [(0, "a")]), reader)
        self.assertEqual((found.front, found.lane), (["b", "b"], ["a"]))

    def test_states_that_no_lane_leads_to_are_no_part_of_views(self):
        reader = Reader(("a",), [{"a": 0}, {"a": 0}], ["x", "y"])
        found = judge_rule(Rule(("a",), [{"a": 0}], [(0, "a")]), reader)
        self.assertEqual(found.triples, [(0, ("x",), ("x",))])

    def test_order_of_views(self):
        # The states are met in the order 0, 2, 1.
        reader = Reader(AB, [{"a": 2, "b": 1}, {"a": 1, "b": 1}, {"a": 2, "b": 2}], ["p", "q", "r"])
        found = judge_rule(Rule(AB, [{"a": 0, "b": 0}], []), reader)
        self.assertEqual(sorted(found.triples), sorted((0, view, view) for view in (("p", "r", "q"), ("r", "r", "q"), ("q", "r", "q"))))

    def test_spoilt_triples(self):
        reader = reader_of(AB, [("seen", ("a",))])
        good = judge_rule(RULE, reader).triples
        one, other = ("n", "y"), ("y", "y")
        self.assertEqual(sorted(good), [(0, one, one), (1, other, other)])
        self.assertTrue(Unseen(tuple(good[::-1]) + tuple(good)).shows(RULE, reader))
        # More triples do no harm, if those behind them are there, too.
        self.assertTrue(Unseen(good + [(0, other, other)]).shows(RULE, reader))
        self.assertFalse(Unseen(good + [(1, one, one)]).shows(RULE, reader))
        spoilt = [[], good[1:], good[:1], [(0, one, other), (1, other, other)], good + [(1, one, other)], good + [(2, one, one)], good + [(-1, other, other)],
                  good + [(1, (), ())], good + [(1, ("y",), ("y",))], good + [(1, ("x", "x"), ("x", "x"))], good + [(1, ("y", "n"), ("y", "n"))],
                  good + [(1, ("y", "y", "y"), ("y", "y", "y"))]]
        for triples in spoilt:
            self.assertFalse(Unseen(triples).shows(RULE, reader), triples)
        self.assertFalse(Unseen(good).shows(Rule(AB, RULE.steps, [(1, "a"), (0, "a")]), reader))
        self.assertFalse(Unseen(good).shows(RULE, reader_of(AB, [("count", ("a",), 2)])))

    def test_spoilt_lanes(self):
        reader = reader_of(AB, [("count", ("a",), 2)])
        good = judge_rule(RULE, reader)
        self.assertEqual((good.front, good.lane), ([], ["a", "a"]))
        self.assertTrue(Seen((), ("a", "b", "a")).shows(RULE, reader))
        self.assertFalse(Seen(["a", "a"], ["a", "a"]).shows(RULE, reader))
        for front, lane in (([], []), ([], ["a"]), (["a"], ["a", "a"]), ([], ["b", "a"]), (["c"], ["a", "a"]), ([], ["a", "c"]), (["a", "b"], ["b"])):
            self.assertFalse(Seen(front, lane).shows(RULE, reader), (front, lane))
        self.assertEqual((Seen(("a",), ("b",)).front, Seen(("a",), ("b",)).lane), (["a"], ["b"]))
        self.assertFalse(Seen([], ["a", "a"]))
        self.assertTrue(Unseen([]))

    def test_errors(self):
        reader, other = reader_of(AB, [("seen", ("a",))]), reader_of(ABC, [("seen", ("a",))])
        for call in (judge_rule, Unseen([]).shows, Seen([], []).shows):
            for wrong in (None, reader, Rule, "rule"):
                with self.assertRaises(BadRule):
                    call(wrong, None)
            for wrong in (None, RULE, Reader, "reader"):
                with self.assertRaises(BadReader):
                    call(RULE, wrong)
            with self.assertRaises(BadRule):
                call(RULE, other)

    def test_large(self):
        begin = time.perf_counter()
        # A reader of 1000 states, which sees nothing of a rule of one state that drops nothing, with 1000 views.
        steps = [{"a": (state + 1) % 1000} for state in range(1000)]
        reader = Reader(("a",), steps, ["y"] + ["n"] * 999)
        none = Rule(("a",), [{"a": 0}], [])
        found = judge_rule(none, reader)
        self.assertEqual(len(found.triples), 1000)
        self.assertTrue(found.shows(none, reader))
        every = Rule(("a",), [{"a": (state + 1) % 1000} for state in range(1000)], [(999, "a")])
        seen = judge_rule(every, reader)
        self.assertEqual((seen.front, seen.lane), ([], ["a"] * 1000))
        three = Rule(("a",), [{"a": (state + 1) % 3} for state in range(3)], [])
        self.assertEqual(len(judge_rule(three, reader).triples), 3000)
        letters = reader_of(TWELVE, [("seen", (letter,)) for letter in TWELVE[:8]])
        keep = Rule(TWELVE, [{letter: 0 for letter in TWELVE}], [(0, letter) for letter in TWELVE[8:]])
        found = judge_rule(keep, letters)
        self.assertTrue(found and found.shows(keep, letters))
        self.assertLess(time.perf_counter() - begin, 30)
