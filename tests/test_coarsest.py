"""Coarsest rules, and rules put together: points [21] and [22]."""

import itertools
import time
import unittest

from allbrokers.coarsest import both, coarsest, coarsest_of, drops_more, either, keeping_last, least_rule, within
from allbrokers.questions import reader_of
from allbrokers.readererrors import BadReader, BadRule
from allbrokers.readers import Reader
from allbrokers.squeezing import Rule, judge_rule
from brute import rng_of
from slowlanes import AB, ABC, TWELVE, drops_front, lanes, reached_states, slow_rule, slow_view, some_question, some_reader, some_rule


def is_unseen_in_front(reader, states, lane):
    """Whether the view of a lane is the same with and without its first row."""
    return slow_view(reader, states, lane) == slow_view(reader, states, lane[1:])


def cycle_rule(many, drops, letters=AB):
    return Rule(letters, [{letter: (state + 1) % many for letter in letters} for state in range(many)], drops)


class LeastRules(unittest.TestCase):
    def test_at_random(self):
        rng = rng_of(221)
        for _ in range(150):
            rule = some_rule(rng, 4, rng.choice([("a",), AB]))
            found = least_rule(rule)
            self.assertEqual(found, slow_rule(rule.letters, lambda lane: drops_front(rule, lane), 4))
            self.assertEqual(least_rule(found), found)

    def test_drops_the_same_rows(self):
        rng = rng_of(222)
        for _ in range(60):
            rule = some_rule(rng, 6, ABC)
            found = least_rule(rule)
            self.assertLessEqual(len(found.steps), len(rule.steps))
            self.assertTrue(all(found.kept(lane) == rule.kept(lane) for lane in lanes(ABC, 6)))

    def test_numbering(self):
        # Letters are read from the end: a leads to the state that is met first.
        rule = Rule(AB, [{"a": 3, "b": 2}, {"a": 1, "b": 1}, {"a": 2, "b": 1}, {"a": 1, "b": 3}], [(1, "a"), (2, "b"), (3, "a"), (3, "b")])
        expected = Rule(AB, [{"a": 1, "b": 2}, {"a": 3, "b": 1}, {"a": 2, "b": 3}, {"a": 3, "b": 3}], [(3, "a"), (2, "b"), (1, "a"), (1, "b")])
        self.assertEqual(least_rule(rule), expected)

    def test_one_state(self):
        for drops in ([], [(0, "a")], [(0, "a"), (0, "b")]):
            rule = Rule(AB, [{"a": 0, "b": 0}], drops)
            self.assertEqual(least_rule(rule), rule)
            self.assertEqual(least_rule(cycle_rule(1000, [(state, letter) for state in range(1000) for _, letter in drops])), rule)

    def test_large(self):
        begin = time.perf_counter()
        rule = cycle_rule(1000, [(999, "a")], TWELVE)
        self.assertEqual(least_rule(rule), rule)
        self.assertLess(time.perf_counter() - begin, 20)

    def test_errors(self):
        for wrong in (None, "rule", [cycle_rule(1, [])], Rule, reader_of(AB, [("seen", ("a",))])):
            with self.assertRaises(BadRule):
                least_rule(wrong)


class Coarsest(unittest.TestCase):
    def test_example(self):
        rule = coarsest(reader_of(("a", "b"), [("last", ("a",))]))
        self.assertEqual([rule.kept(["a", "b", "a", "b"]), within(keeping_last(("a", "b"), [("a",), ("b",)]), rule)], [[3], True])

    def test_against_views_of_both_lanes(self):
        rng = rng_of(223)
        for _ in range(120):
            letters = rng.choice([("a",), AB, ABC])
            reader = some_reader(rng, 3, letters)
            states, rule = reached_states(reader)[0], coarsest(reader)
            for lane in lanes(letters, 5, 1):
                self.assertEqual(drops_front(rule, lane), is_unseen_in_front(reader, states, lane), (reader.steps, reader.answers, lane))
            self.assertEqual(least_rule(rule), rule)

    def test_is_the_least_rule(self):
        rng = rng_of(224)
        for _ in range(60):
            reader = some_reader(rng, 3, rng.choice([("a",), AB]))
            states, rule = reached_states(reader)[0], coarsest(reader)
            if len(rule.steps) <= 5:
                self.assertEqual(rule, slow_rule(reader.letters, lambda lane: is_unseen_in_front(reader, states, lane), 4))

    def test_nothing_is_seen_and_no_other_drops_more(self):
        rng, told = rng_of(225), {True: 0, False: 0}
        for _ in range(200):
            reader = some_reader(rng, 3, AB)
            rule, other = coarsest(reader), some_rule(rng, 2, AB, part=0.3)
            self.assertTrue(judge_rule(rule, reader))
            is_unseen = bool(judge_rule(other, reader))
            told[is_unseen] += 1
            if is_unseen:
                self.assertTrue(within(other, rule))
            for lane in lanes(AB, 5):
                squeezed = rule.squeezed(lane)
                self.assertEqual(rule.squeezed(squeezed), squeezed)
        self.assertGreater(min(told.values()), 20)

    def test_of_questions(self):
        rng = rng_of(226)
        for _ in range(40):
            reader = reader_of(AB, [some_question(rng, AB, 1)])
            rule = coarsest(reader)
            self.assertTrue(judge_rule(rule, reader))
            if len(reader) < 8:
                states = reached_states(reader)[0]
                self.assertTrue(all(drops_front(rule, lane) == is_unseen_in_front(reader, states, lane) for lane in lanes(AB, 5, 1)))

    def test_one_state_and_many(self):
        begin = time.perf_counter()
        one = Reader(TWELVE, [{letter: 0 for letter in TWELVE}], ["x"])
        self.assertEqual(coarsest(one), Rule(TWELVE, [{letter: 0 for letter in TWELVE}], [(0, letter) for letter in TWELVE]))
        many = Reader(("a",), [{"a": (state + 1) % 1000} for state in range(1000)], ["y"] + ["n"] * 999)
        self.assertEqual(coarsest(many), Rule(("a",), [{"a": 0}], []))
        chain = Reader(("a", "b"), [{"a": min(state + 1, 999), "b": state} for state in range(1000)], ["n"] * 999 + ["y"])
        rule = coarsest(chain)
        self.assertEqual(rule.kept(["a"] * 1200 + ["b"]), list(range(201, 1200)))
        self.assertLess(time.perf_counter() - begin, 30)

    def test_errors(self):
        for wrong in (None, "reader", Reader, cycle_rule(1, [])):
            with self.assertRaises(BadReader):
                coarsest(wrong)


class CoarsestOf(unittest.TestCase):
    def test_against_all_views(self):
        rng = rng_of(227)
        for _ in range(80):
            letters = rng.choice([AB, AB, ABC])
            readers = [some_reader(rng, 2, letters, ("x", "y")) for _ in range(rng.randint(1, 3))]
            states, rule = [reached_states(reader)[0] for reader in readers], coarsest_of(readers)
            for lane in lanes(letters, 5, 1):
                expected = all(is_unseen_in_front(reader, row, lane) for reader, row in zip(readers, states))
                self.assertEqual(drops_front(rule, lane), expected)
            self.assertEqual(least_rule(rule), rule)
            self.assertEqual(rule, coarsest_of(tuple(readers[::-1])))
            self.assertEqual(rule, both([coarsest(reader) for reader in readers]))
            self.assertTrue(all(judge_rule(rule, reader) for reader in readers))

    def test_of_one(self):
        reader = reader_of(AB, [("just", ("a",), 2)])
        self.assertEqual(coarsest_of([reader]), coarsest(reader))
        self.assertEqual(coarsest_of([reader] * 9), coarsest(reader))

    def test_errors(self):
        reader, other = reader_of(AB, [("seen", ("a",))]), reader_of(ABC, [("seen", ("a",))])
        for wrong in (None, [], (), reader, [None], [reader, None], [reader, other], {"a": reader}, "ab", [reader, cycle_rule(1, [])]):
            with self.assertRaises(BadReader, msg=wrong):
                coarsest_of(wrong)


class PutTogether(unittest.TestCase):
    def test_at_random(self):
        rng = rng_of(228)
        for _ in range(100):
            letters = rng.choice([("a",), AB, ABC])
            rules = [some_rule(rng, 3, letters, part=0.5) for _ in range(rng.randint(1, 4))]
            all_of, one_of = both(rules), either(tuple(rules))
            for lane in lanes(letters, 4, 1):
                told = [drops_front(rule, lane) for rule in rules]
                self.assertEqual([drops_front(all_of, lane), drops_front(one_of, lane)], [all(told), any(told)])
            for rule in (all_of, one_of):
                self.assertEqual(rule, least_rule(rule))
                self.assertEqual(rule.letters, letters)

    def test_least_by_trying(self):
        rng = rng_of(229)
        for _ in range(40):
            rules = [some_rule(rng, 2, AB, part=0.5) for _ in range(2)]
            self.assertEqual(both(rules), slow_rule(AB, lambda lane: all(drops_front(rule, lane) for rule in rules), 4))
            self.assertEqual(either(rules), slow_rule(AB, lambda lane: any(drops_front(rule, lane) for rule in rules), 4))

    def test_of_one(self):
        rule = cycle_rule(6, [(0, "a"), (3, "a")])
        self.assertEqual([both([rule]), either([rule])], [least_rule(rule)] * 2)
        self.assertEqual(len(both([rule]).steps), 3)

    def test_product_of_1000(self):
        begin = time.perf_counter()
        rules = [cycle_rule(many, [(many - 1, letter) for letter in TWELVE], TWELVE) for many in (8, 125)]
        self.assertEqual([len(both(rules).steps), len(either(rules).steps)], [1000, 1000])
        self.assertEqual(both(rules), cycle_rule(1000, [(999, letter) for letter in TWELVE], TWELVE))
        self.assertEqual(either(rules).drops[:3], [(7, "a"), (7, "b"), (7, "c")])
        self.assertLess(time.perf_counter() - begin, 30)

    def test_errors(self):
        rule, other = cycle_rule(2, []), cycle_rule(2, [], ABC)
        for wrong in (None, [], (), rule, [None], [rule, None], [rule, other], {"a": rule}, "ab", [reader_of(AB, [("seen", ("a",))])]):
            for call in (both, either):
                with self.assertRaises(BadRule, msg=wrong):
                    call(wrong)


class Within(unittest.TestCase):
    def test_first_lane_at_random(self):
        rng, told = rng_of(2210), {True: 0, False: 0}
        for _ in range(200):
            letters = rng.choice([("a",), AB, ABC])
            rule, other = some_rule(rng, 3, letters, part=0.3), some_rule(rng, 3, letters, part=0.7)
            expected = next((lane for lane in lanes(letters, 6, 1) if drops_front(rule, lane) and not drops_front(other, lane)), None)
            told[expected is None] += 1
            self.assertEqual(drops_more(rule, other), expected)
            self.assertIs(within(rule, other), expected is None)
        self.assertGreater(min(told.values()), 20)

    def test_by_hand(self):
        none, every = cycle_rule(1, []), cycle_rule(1, [(0, "a"), (0, "b")])
        self.assertEqual([drops_more(none, every), drops_more(every, none), drops_more(every, every)], [None, ["a"], None])
        self.assertEqual(drops_more(cycle_rule(3, [(2, "b")]), none), ["b", "a", "a"])
        self.assertEqual([within(none, every), within(every, none), within(every, every)], [True, False, True])

    def test_long(self):
        begin = time.perf_counter()
        one, other = cycle_rule(27, [(26, "b")], TWELVE), cycle_rule(37, [(state, "b") for state in range(36)], TWELVE)
        lane = drops_more(one, other)
        self.assertEqual(lane, ["b"] + ["a"] * 998)
        self.assertLess(time.perf_counter() - begin, 20)

    def test_errors(self):
        rule = cycle_rule(2, [])
        for call in (within, drops_more):
            for pair in ((None, rule), (rule, None), (rule, cycle_rule(2, [], ABC)), (rule, reader_of(AB, [("seen", ("a",))])), ("a", "b")):
                with self.assertRaises(BadRule, msg=pair):
                    call(*pair)


class KeepingLast(unittest.TestCase):
    def test_at_random(self):
        rng = rng_of(2211)
        for _ in range(60):
            letters = rng.choice([("a",), AB, ABC, ("a", "b", "c", "d")])
            groups = [[] for _ in range(rng.randint(0, len(letters)))]
            for letter in letters:
                if groups and rng.random() < 0.8:
                    rng.choice(groups).append(letter)
            groups = [tuple(group) for group in groups if group]
            rule = keeping_last(letters, groups)
            self.assertEqual(least_rule(rule), rule)
            for lane in lanes(letters, 4, 1):
                expected = any(lane[0] in group and any(row in group for row in lane[1:]) for group in groups)
                self.assertEqual(drops_front(rule, lane), expected, (groups, lane))

    def test_by_hand(self):
        rule = keeping_last(ABC, [("a", "b")])
        self.assertEqual([rule.squeezed(list("abcabc")), rule.squeezed(list("ccc")), len(rule.steps)], [list("cbc"), list("ccc"), 2])
        self.assertEqual(len(keeping_last(ABC, []).steps), 1)
        self.assertEqual(keeping_last(AB, (("a",), ("b",))), keeping_last(AB, [("b",), ("a",)]))

    def test_eight_groups(self):
        groups = [(letter,) for letter in TWELVE[:6]] + [("g", "i"), ("h", "l")]
        rule = keeping_last(TWELVE, groups)
        self.assertEqual(len(rule.steps), 256)
        self.assertEqual(rule.squeezed(list(TWELVE) * 2), list("jkabcdefijkl"))
        self.assertEqual(rule.kept(list(itertools.repeat("a", 5000))), [4999])
