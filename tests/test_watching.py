"""What a watcher can tell: point [9]."""

import itertools
import unittest

from allbrokers.errors import BadKinds, NotSeen
from allbrokers.machines import Machine
from allbrokers.walking import runs
from allbrokers.watching import Hidden, Told, Watcher, tells, watch
from brute import ends_behind, rng_of, some_machine, told_by_trace, twin_ranks
from test_outside import WRONG_FREE

EXAMPLE = Machine(3, [(0, "x", "", 1), (1, "", "a", 1), (0, "", "a", 0), (1, "", "b", 2)])

# Behind x the words a, b follow; without it a, b, c: so the fall is uncertain for two words.
TWO = Machine(6, [(0, "x", "", 1), (1, "", "a", 2), (2, "", "b", 3), (0, "", "a", 4), (4, "", "b", 5), (5, "", "c", 5)])
TWO_RANKS = {(1, 0): 2, (2, 4): 1, (3, 5): 0}


def unsure_words(machine, kind, free, most):
    """The greatest number of words behind an uncertain fall, in runs of at most so many steps, and all such pairs."""
    falling, calm = [], {}
    for run in runs(machine, most, kinds=free):
        trace = tuple(step[2] for step in run if step[2])
        places = [at for at, step in enumerate(run) if step[1] == kind]
        if places:
            falling.append((trace, sum(1 for step in run[places[0] + 1:] if step[2]), run[-1][3]))
        else:
            calm.setdefault(trace, set()).add(run[-1][3] if run else 0)
    number = max([words for trace, words, _ in falling if trace in calm], default=0)
    return number, {(end, other) for trace, _, end in falling for other in calm.get(trace, ())}


class Tells(unittest.TestCase):
    def test_example(self):
        found = [bool(tells(EXAMPLE, "x", ("x",))), watch(EXAMPLE, ["a"], ("x",)), watch(EXAMPLE, ["a", "b"], ("x",))]
        self.assertEqual(found, [False, {"x": "possible"}, {"x": "certain"}])

    def test_hidden(self):
        found = tells(EXAMPLE, "x", ("x",))
        self.assertTrue(found.shows(EXAMPLE, "x", ("x",)))

    def test_told(self):
        found = tells(TWO, "x", ("x",))
        self.assertEqual((found.number, found.ranks, bool(found)), (2, TWO_RANKS, True))
        self.assertTrue(found.shows(TWO, "x", ("x",)))

    def test_no_such_fall(self):
        for machine in (Machine(1, []), Machine(2, [(1, "x", "", 0)]), Machine(2, [(0, "y", "", 1)])):
            found = tells(machine, "x", ("x", "y"))
            self.assertEqual((found.number, found.ranks), (0, {}))
            self.assertTrue(found.shows(machine, "x", ("x", "y")))

    def test_certain_at_once(self):
        machine = Machine(2, [(0, "x", "b", 1), (0, "", "a", 0), (1, "", "a", 1)])
        self.assertEqual(tells(machine, "x", ("x",)), Told(0, {}))

    def test_the_word_of_the_fall_does_not_count(self):
        machine = Machine(4, [(0, "x", "a", 1), (0, "", "a", 2), (1, "", "b", 3), (2, "", "b", 2)])
        self.assertEqual(tells(machine, "x", ("x",)), Told(1, {(1, 2): 1, (3, 2): 0}))

    def test_unseen_loops_are_no_words(self):
        machine = Machine(2, [(0, "x", "", 1), (1, "", "", 0), (0, "", "", 0)])
        found = tells(machine, "x", ("x",))
        self.assertEqual(found, Told(0, {(1, 0): 0, (0, 0): 0}))
        self.assertTrue(found.shows(machine, "x", ("x",)))

    def test_barred_falls_do_not_count(self):
        machine = Machine(3, [(0, "x", "", 1), (1, "", "a", 1), (0, "y", "", 2), (2, "", "a", 2)])
        self.assertEqual(tells(machine, "x", ("x",)).number, 0)
        self.assertFalse(tells(machine, "x", ("x", "y")))
        self.assertFalse(tells(machine, "y", ("x", "y")))

    def test_at_random(self):
        rng = rng_of(51)
        answers = set()
        for _ in range(300):
            machine = some_machine(rng, most_states=3, most_steps=5, words=("a",), own=0.7, unseen=0.3)
            free = rng.choice([("x",), ("x", "y"), ("w", "x")])
            found = tells(machine, "x", free)
            answers.add((bool(found), bool(found) and found.number))
            self.assertTrue(found.shows(machine, "x", free))
            number, pairs = unsure_words(machine, "x", free, 7)
            if found:
                self.assertEqual(found.number, number)
                self.assertTrue(pairs <= set(found.ranks))
            else:
                self.assertGreater(number, 0)
        self.assertEqual({(bool_, number) for bool_, number in answers if number < 2}, {(False, 0), (True, 0), (True, 1)})

    def test_long_loops(self):
        for many in (2, 3, 4, 7):
            ring = [(s, "", "a", s % many + 1) for s in range(1, many + 1)]
            machine = Machine(many + 1, ring + [(0, "x", "", 1), (0, "", "a", 0)])
            found = tells(machine, "x", ("x",))
            self.assertFalse(found)
            self.assertTrue(found.shows(machine, "x", ("x",)))
            other = Machine(many + 1, ring + [(0, "x", "", 1)])
            self.assertEqual(tells(other, "x", ("x",)), Told(0, {(1, 0): 0}))

    def test_ranks_at_random(self):
        rng = rng_of(53)
        numbers = set()
        for _ in range(600):
            many = rng.randint(2, 6)
            steps = []
            for _ in range(rng.randint(2, 10)):
                state = rng.randrange(many)
                goal = rng.randrange(state, many) if rng.random() < 0.8 else rng.randrange(many)
                steps.append((state, rng.choice(["", "", "", "x", "y"]), rng.choice(["", "a", "a", "b"]), goal))
            machine, free = Machine(many, steps), rng.choice([("x",), ("x", "y")])
            found, ranks = tells(machine, "x", free), twin_ranks(machine, "x", free)
            self.assertTrue(found.shows(machine, "x", free))
            self.assertEqual(bool(found), None not in ranks.values())
            if found:
                self.assertEqual(sorted(found.ranks), sorted(ranks))
                self.assertEqual(found.number, max(ranks.values(), default=0))
                self.assertTrue(Told(found.number, ranks).shows(machine, "x", free))
            numbers.add(found.number if found else None)
        self.assertTrue({None, 0, 1, 2} <= numbers, numbers)

    def test_long(self):
        machine = Machine(3000, [(s, "", "a", s + 1) for s in range(2999)] + [(0, "x", "", 1000)])
        found = tells(machine, "x", ("x",))
        self.assertEqual(found.number, 1999)
        self.assertTrue(found.shows(machine, "x", ("x",)))

    def test_bad_kinds(self):
        for call in (lambda kind, free: tells(EXAMPLE, kind, free),
                     lambda kind, free: Told(0, {}).shows(EXAMPLE, kind, free),
                     lambda kind, free: Hidden([], [], [], []).shows(EXAMPLE, kind, free)):
            for free in WRONG_FREE:
                with self.assertRaises(BadKinds):
                    call("x", free)
            for kind in ("y", "", None, ("x",)):
                with self.assertRaises(BadKinds):
                    call(kind, ("x",))
            with self.assertRaises(BadKinds):
                call("x", ())


class Evidence(unittest.TestCase):
    def test_told(self):
        self.assertTrue(Told(2, TWO_RANKS).shows(TWO, "x", ("x",)))
        self.assertTrue(Told(2, TWO_RANKS).shows(TWO, "x", ("w", "x")))

    def test_told_wrong_numbers(self):
        for number in (-1, 0, 1, 3):
            self.assertFalse(Told(number, TWO_RANKS).shows(TWO, "x", ("x",)))
        self.assertFalse(Told(3, {(1, 0): 3, (2, 4): 1, (3, 5): 0}).shows(TWO, "x", ("x",)))

    def test_told_wrong_ranks(self):
        for ranks in ({}, {(1, 0): 2, (2, 4): 1}, {**TWO_RANKS, (3, 3): 0}, {**TWO_RANKS, (9, 9): 0}, {**TWO_RANKS, (0, 0): 2},
                      {(1, 0): 2, (2, 4): 2, (3, 5): 0}, {(1, 0): 1, (2, 4): 1, (3, 5): 0}, {(1, 0): 2, (2, 4): 1, (3, 5): -1},
                      {(1, 0): 3, (2, 4): 1, (3, 5): 0}, {(0, 1): 2, (4, 2): 1, (5, 3): 0}):
            self.assertFalse(Told(2, ranks).shows(TWO, "x", ("x",)), ranks)

    def test_told_ranks_may_not_grow_by_unseen_steps(self):
        machine = Machine(4, [(0, "x", "", 1), (1, "", "", 2), (2, "", "a", 3), (0, "", "a", 0)])
        self.assertTrue(Told(1, {(1, 0): 1, (2, 0): 1, (3, 0): 0}).shows(machine, "x", ("x",)))
        self.assertFalse(Told(1, {(1, 0): 0, (2, 0): 1, (3, 0): 0}).shows(machine, "x", ("x",)))

    def test_no_told_where_it_is_hidden(self):
        self.assertFalse(Told(0, {(1, 0): 0}).shows(EXAMPLE, "x", ("x",)))
        self.assertFalse(Told(5, {(1, 0): 5}).shows(EXAMPLE, "x", ("x",)))

    def test_hidden(self):
        run, loop, other_loop = [(0, "x", "", 1)], [(1, "", "a", 1)], [(0, "", "a", 0)]

        def shows(run, other, loop, other_loop, free=("x",)):
            return Hidden(run, other, loop, other_loop).shows(EXAMPLE, "x", free)

        self.assertTrue(shows(run, [], loop, other_loop))
        self.assertTrue(shows(tuple(run), (), tuple(loop), tuple(other_loop)))
        self.assertTrue(shows(run + loop, other_loop, loop * 2, other_loop * 2))
        for wrong in ([], loop, [(0, "x", "", 2)], run + loop, run + [(1, "", "b", 2)], run + run):
            self.assertFalse(shows(wrong, [], loop, other_loop), wrong)
        for wrong in (run, other_loop, [(0, "", "b", 0)]):
            self.assertFalse(shows(run, wrong, loop, other_loop), wrong)
        for wrong in ([], loop * 2, [(1, "", "b", 2)], [(1, "", "b", 1)], other_loop, [(0, "", "a", 1)], [(9, "", "a", 1)]):
            self.assertFalse(shows(run, [], wrong, other_loop), wrong)
        for wrong in ([], other_loop * 2, loop, [(0, "", "b", 0)], [(1, "", "a", 0)]):
            self.assertFalse(shows(run, [], loop, wrong), wrong)
        self.assertFalse(shows(run, [], [], []))

    def test_hidden_without_words(self):
        machine = Machine(2, [(0, "x", "", 1), (1, "", "", 1), (0, "", "", 0)])
        self.assertFalse(Hidden([(0, "x", "", 1)], [], [(1, "", "", 1)], [(0, "", "", 0)]).shows(machine, "x", ("x",)))

    def test_hidden_loops_must_come_back(self):
        machine = Machine(4, [(0, "x", "", 1), (1, "", "a", 2), (0, "", "a", 3), (2, "", "a", 2), (3, "", "a", 3)])
        run = [(0, "x", "", 1)]
        self.assertFalse(Hidden(run, [], [(1, "", "a", 2)], [(0, "", "a", 3)]).shows(machine, "x", ("x",)))
        run.append((1, "", "a", 2))
        found = Hidden(run, [(0, "", "a", 3)], [(2, "", "a", 2)], [(3, "", "a", 3)])
        self.assertTrue(found.shows(machine, "x", ("x",)))

    def test_hidden_kinds(self):
        steps = [(0, "x", "", 1), (1, "x", "a", 1), (1, "y", "a", 1), (0, "", "a", 0), (0, "x", "a", 0), (0, "y", "a", 0)]
        machine = Machine(2, steps)
        run, calm = [(0, "x", "", 1)], [(0, "", "a", 0)]
        for loop, other_loop, free, is_so in ((steps[1:2], calm, ("x",), True), (steps[2:3], calm, ("x",), False),
                                              (steps[2:3], calm, ("x", "y"), True),
                                              (steps[1:2], steps[4:5], ("x",), False),
                                              (steps[1:2], steps[5:6], ("x",), False),
                                              (steps[1:2], steps[5:6], ("x", "y"), True)):
            self.assertEqual(Hidden(run, [], loop, other_loop).shows(machine, "x", free), is_so)

    def test_hidden_first_run_must_have_a_fall_itself(self):
        machine = Machine(1, [(0, "", "a", 0), (0, "x", "a", 0)])
        calm, fall = [(0, "", "a", 0)], [(0, "x", "a", 0)]
        for run, loop, is_so in (([], calm, False), ([], fall, False), (calm, fall, False), (fall, calm, True)):
            found = Hidden(run, calm[:len(run)], loop, calm)
            self.assertEqual(found.shows(machine, "x", ("x",)), is_so)

    def test_equality_copies_and_truth(self):
        ranks, run = {(0, 1): 2}, [1]
        one, other = Told(2, ranks), Hidden(run, (2,), (3,), (4,))
        ranks.clear()
        run.clear()
        self.assertEqual((one.ranks, other.run, other.other, other.loop, other.other_loop), ({(0, 1): 2}, [1], [2], [3], [4]))
        self.assertEqual(one, Told(2, {(0, 1): 2}))
        self.assertNotEqual(one, Told(1, {(0, 1): 2}))
        self.assertNotEqual(one, Told(2, {}))
        self.assertEqual(other, Hidden([1], [2], [3], [4]))
        for wrong in (Hidden([0], [2], [3], [4]), Hidden([1], [0], [3], [4]), Hidden([1], [2], [0], [4]), one,
                      Hidden([1], [2], [3], [0])):
            self.assertFalse(other == wrong)
        self.assertEqual((bool(one), bool(other)), (True, False))


class Watch(unittest.TestCase):
    def test_all_answers(self):
        self.assertEqual(watch(TWO, [], ("x",)), {"x": "possible"})
        self.assertEqual(watch(TWO, ["a", "b"], ("x",)), {"x": "possible"})
        self.assertEqual(watch(TWO, ["a", "b", "c"], ("x",)), {"x": "out"})
        self.assertEqual(watch(Machine(2, [(0, "x", "a", 1)]), ("a",), ("x",)), {"x": "certain"})

    def test_kinds(self):
        self.assertEqual(watch(TWO, ["a"], ()), {})
        self.assertEqual(watch(TWO, ["a"], ("w", "x", "z")), {"w": "out", "x": "possible", "z": "out"})

    def test_not_seen(self):
        for trace in (["b"], ["a", "a"], ["a", "b", "c", "d"], [""]):
            for free in (("x",), ()):
                with self.assertRaises(NotSeen):
                    watch(TWO, trace, free)
        with self.assertRaises(NotSeen):
            watch(EXAMPLE, ["b"], ())

    def test_bad_kinds_come_first(self):
        for free in WRONG_FREE:
            with self.assertRaises(BadKinds):
                watch(TWO, ["q"], free)

    def test_at_random(self):
        rng = rng_of(52)
        for _ in range(150):
            machine = some_machine(rng, unseen=0.4)
            free = rng.choice([(), ("x",), ("y",), ("x", "y")])
            for length in range(4):
                for trace in itertools.product("ab", repeat=length):
                    if ends_behind(machine, trace, free):
                        self.assertEqual(watch(machine, list(trace), free), told_by_trace(machine, trace, free))
                    else:
                        with self.assertRaises(NotSeen):
                            watch(machine, trace, free)


class Watchers(unittest.TestCase):
    def test_about(self):
        self.assertEqual(Watcher(TWO, ("w", "x")).about, "w")
        self.assertEqual(Watcher(TWO, ("w", "x"), about="x").about, "x")
        self.assertIsNone(Watcher(TWO, ()).about)
        self.assertIsNone(Watcher(TWO, (), about=None).about)
        self.assertEqual(Watcher(TWO, ("w", "x"), about=None).about, "w")

    def test_see(self):
        watcher = Watcher(TWO, ("x",))
        self.assertEqual(watcher.see(), [])
        self.assertEqual(watcher.known(), {"x": "possible"})
        self.assertEqual(watcher.see("a", "b"), ["possible", "possible"])
        self.assertEqual(watcher("c"), "out")
        self.assertEqual((len(watcher), list(watcher), watcher.known()), (3, ["a", "b", "c"], {"x": "out"}))

    def test_ask(self):
        watcher = Watcher(EXAMPLE, ("w", "x"))
        self.assertEqual(watcher("a"), "out")
        watcher.ask("x")
        self.assertEqual((watcher.about, watcher("a")), ("x", "possible"))
        watcher.ask(None)
        self.assertEqual((watcher.about, watcher("a"), watcher.see("a", "b")), (None, None, [None, None]))
        self.assertEqual(watcher.known(), {"w": "out", "x": "certain"})
        for about in ("y", "", ("x",), 3):
            with self.assertRaises(BadKinds):
                watcher.ask(about)
        self.assertIsNone(watcher.about)

    def test_no_free_kinds(self):
        watcher = Watcher(TWO, ())
        self.assertEqual((watcher.see("a", "b"), watcher("c"), watcher.known()), ([None, None], None, {}))
        with self.assertRaises(NotSeen):
            watcher("a")
        self.assertEqual(len(watcher), 3)

    def test_all_or_none(self):
        watcher = Watcher(TWO, ("x",))
        watcher("a")
        with self.assertRaises(NotSeen):
            watcher.see("b", "c", "a")
        with self.assertRaises(NotSeen):
            watcher("c")
        self.assertEqual((list(watcher), watcher.known()), (["a"], {"x": "possible"}))
        self.assertEqual(watcher.see("b", "c"), ["possible", "out"])

    def test_bad_kinds(self):
        for free in WRONG_FREE:
            with self.assertRaises(BadKinds):
                Watcher(TWO, free)
        for about in ("y", "", 3):
            with self.assertRaises(BadKinds):
                Watcher(TWO, ("x",), about=about)
        with self.assertRaises(BadKinds):
            Watcher(TWO, (), about="x")

    def test_known_is_new(self):
        watcher = Watcher(TWO, ("x",))
        watcher.known().clear()
        self.assertEqual(watcher.known(), {"x": "possible"})
