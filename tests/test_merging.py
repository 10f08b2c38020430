"""What does the same: point [11]."""

import unittest

from allbrokers.errors import BadFormula, BadStates, TooLarge
from allbrokers.machines import Machine, union
from allbrokers.merging import classes, do_the_same, holds, merged, told_apart
from brute import formula_depth, formula_holds, rng_of, same_pairs, some_machine, some_states

MACHINE = Machine(4, [(0, "", "", 1), (0, "", "", 2), (1, "", "a", 3), (2, "", "a", 3)])


def numbers_of(same, states):
    numbers = {}
    for state in states:
        least = min(other for other in states if (state, other) in same)
        numbers[state] = numbers[least] if least != state else len(set(numbers.values()))
    return [numbers[state] for state in states]


class Classes(unittest.TestCase):
    def test_example(self):
        found = [classes(MACHINE), merged(MACHINE).steps, holds(MACHINE, 0, ("can", "", "", (("can", "", "a", ()),)))]
        self.assertEqual(found, [[0, 1, 1, 2], ((0, "", "", 1), (1, "", "a", 2)), True])

    def test_edges(self):
        self.assertEqual(classes(Machine(1, [])), [0])
        self.assertEqual(classes(Machine(3, [])), [0, 0, 0])
        self.assertEqual(classes(Machine(3, []), (1,)), [0, 1, 0])
        self.assertEqual(classes(Machine(3, []), (), (0, 1, 2)), [0, 0, 0])
        self.assertEqual(classes(Machine(3, []), (1, 2), (2,)), [0, 1, 2])
        self.assertEqual(classes(Machine(2, [(0, "", "", 0), (1, "x", "", 1)])), [0, 1])
        self.assertEqual(classes(Machine(2, [(0, "", "a", 0), (1, "", "", 1)])), [0, 1])
        self.assertEqual(classes(Machine(2, [(0, "", "", 1), (1, "", "", 0)])), [0, 0])

    def test_at_random(self):
        rng = rng_of(71)
        for _ in range(400):
            machine = some_machine(rng, most_states=7, most_steps=12, own=0.8, unseen=0.7)
            marks = [some_states(rng, machine) for _ in range(rng.choice([0, 0, 1, 2]))]
            expected = numbers_of(same_pairs(machine, marks), range(len(machine)))
            self.assertEqual(classes(machine, *marks), expected)

    def test_long_chains(self):
        chain = Machine(3000, [(s, "", "", s + 1) for s in range(2999)])
        self.assertEqual(classes(chain), list(range(3000)))
        ring = Machine(3000, [(s, "", "", (s + 1) % 3000) for s in range(3000)])
        self.assertEqual(classes(ring), [0] * 3000)
        self.assertEqual(len(set(classes(ring, (7,)))), 3000)
        self.assertEqual(classes(ring, tuple(range(0, 3000, 2))), [0, 1] * 1500)

    def test_bad_marks(self):
        for marks in (([1],), ((4,),), ((1, 1),), ((0,), (2, 1)), (None,), ((True,),)):
            for call in (classes, merged):
                with self.assertRaises(BadStates):
                    call(MACHINE, *marks)


class Merged(unittest.TestCase):
    def test_states_that_no_run_reaches(self):
        machine = Machine(5, [(0, "x", "", 4), (4, "", "a", 3), (3, "", "a", 4), (1, "", "", 2)])
        self.assertEqual(merged(machine), Machine(2, [(0, "x", "", 1), (1, "", "a", 1)]))
        self.assertEqual(merged(machine, (3,)), Machine(3, [(0, "x", "", 2), (2, "", "a", 1), (1, "", "a", 2)]))

    def test_at_random(self):
        rng = rng_of(72)
        for _ in range(200):
            machine = some_machine(rng, most_states=7, most_steps=12, own=0.8, unseen=0.7)
            marks = [some_states(rng, machine) for _ in range(rng.choice([0, 0, 1]))]
            numbers, reached = classes(machine, *marks), machine.reached()
            order = []
            for state in reached:
                if numbers[state] not in order:
                    order.append(numbers[state])
            names = {state: order.index(numbers[state]) for state in reached}
            steps = [(names[s], k, w, names[g]) for s, k, w, g in machine.steps if s in names]
            found = merged(machine, *marks)
            self.assertEqual(found, Machine(len(order), steps))
            self.assertTrue(do_the_same(found, machine))


class DoTheSame(unittest.TestCase):
    def test_do_the_same(self):
        self.assertTrue(do_the_same(MACHINE, merged(MACHINE)))
        self.assertFalse(do_the_same(Machine.showing("a"), Machine.showing("b")))
        self.assertFalse(do_the_same(Machine.showing("a"), Machine.showing("a", kind="x")))
        self.assertTrue(do_the_same(Machine(1, []), Machine(3, [(1, "", "", 2)])))
        early = Machine(4, [(0, "", "a", 1), (0, "", "a", 2), (1, "", "b", 3)])
        late = Machine(3, [(0, "", "a", 1), (1, "", "b", 2)])
        self.assertFalse(do_the_same(early, late))

    def test_two_of_3000_states(self):
        one = Machine(3000, [(s, "", "", s + 1) for s in range(2999)])
        other = Machine(2999, [(s, "", "", s + 1) for s in range(2998)])
        self.assertTrue(do_the_same(one, one))
        self.assertFalse(do_the_same(one, other))

    def test_at_random(self):
        rng = rng_of(73)
        answers = set()
        for _ in range(300):
            one, other = (some_machine(rng, most_states=3, most_steps=5, own=0.9, unseen=0.8) for _ in range(2))
            joined = union(one, other)
            expected = (1, 1 + len(one)) in same_pairs(joined, [])
            answers.add(expected)
            self.assertEqual(do_the_same(one, other), expected)
        self.assertEqual(answers, {True, False})


class Formulas(unittest.TestCase):
    def test_in(self):
        self.assertTrue(holds(MACHINE, 1, ("in", 0), (0, 1)))
        self.assertFalse(holds(MACHINE, 2, ("in", 0), (0, 1)))
        self.assertTrue(holds(MACHINE, 2, ("in", 1), (0, 1), (2,)))
        self.assertFalse(holds(MACHINE, 2, ("in", 2), (0, 1), (2,)))
        self.assertFalse(holds(MACHINE, 2, ("in", 10 ** 30)))
        self.assertTrue(holds(MACHINE, 2, ("not", ("in", 0)), ()))

    def test_can(self):
        a, two = ("can", "", "a", ()), Machine(3, [(0, "", "", 1), (0, "", "", 2), (1, "", "a", 1), (2, "x", "", 2)])
        x = ("can", "x", "", ())
        self.assertTrue(holds(two, 0, ("can", "", "", (a,))))
        self.assertTrue(holds(two, 0, ("can", "", "", (x,))))
        self.assertFalse(holds(two, 0, ("can", "", "", (a, x))))
        self.assertFalse(holds(two, 0, ("can", "", "a", ())))
        self.assertFalse(holds(two, 2, ("can", "y", "", ())))
        self.assertTrue(holds(two, 0, ("can", "", "", (("not", a), x))))

    def test_at_random(self):
        rng = rng_of(74)

        def some_formula(depth):
            choice = rng.randrange(4 if depth > 1 else 1)
            if choice == 0:
                return ("in", rng.randrange(3))
            if choice == 1:
                return ("not", some_formula(depth - 1))
            parts = tuple(some_formula(depth - 1) for _ in range(rng.randrange(3)))
            return ("can", rng.choice(["", "", "x"]), rng.choice(["", "a"]), parts)

        for _ in range(400):
            machine = some_machine(rng, own=0.8, unseen=0.7, kinds=("x",), words=("a",))
            marks, formula = [some_states(rng, machine) for _ in range(2)], some_formula(5)
            for state in range(len(machine)):
                self.assertEqual(holds(machine, state, formula, *marks), formula_holds(machine, state, formula, marks))

    def test_depth(self):
        ring = Machine(2, [(0, "", "", 1), (1, "", "", 0)])
        nots, cans, short = ("in", 0), ("can", "", "", ()), ("in", 0)
        for _ in range(199):
            nots, cans, short = ("not", nots), ("can", "", "", (("in", 1), cans)), ("can", "", "", (short,))
        self.assertFalse(holds(ring, 0, nots, (0,)))
        self.assertTrue(holds(ring, 0, cans, (), (0, 1)))
        self.assertFalse(holds(ring, 0, short, (0,)))
        for formula in (("not", nots), ("can", "", "", (("in", 0), cans)), ("can", "", "", (short,)), ("not", cans)):
            with self.assertRaises(BadFormula):
                holds(ring, 0, formula)
        deep = ("in", 0)
        for _ in range(100000):
            deep = ("not", deep)
        with self.assertRaises(BadFormula):
            holds(ring, 0, deep)

    def test_wide_ways(self):
        # Each state has several ways on, so looking at each of them by itself would take very long.
        machine = Machine(10, [(s, "", "", g) for s in range(10) for g in range(10)])
        formula = ("in", 0)
        for _ in range(150):
            formula = ("can", "", "", (formula,))
        self.assertTrue(holds(machine, 0, formula, (9,)))

    def test_bad_formulas(self):
        bad = [None, 3, "in", (), ("in",), ("in", -1), ("in", True), ("in", "0"), ("in", 0, 0), ["in", 0], ("not",),
               ("not", ("in", 0), ("in", 0)), ("not", ["in", 0]), ("not", None), ("can", "", ""), ("can", "", "", []),
               ("can", "", "", None), ("can", "X", "", ()), ("can", "", "A", ()), ("can", None, "", ()), ("can", "", 1, ()),
               ("can", "", "", (("in", 0), 3)), ("can", "", "", ("in", 0)), ("or", ("in", 0)), ("or", "", "", ()), (("in",), 0),
               ("can", "abcdefghi", "", ()), ("can", "", "", (), ()), ([], 0)]
        for formula in bad:
            for wrapped in (formula, ("not", formula), ("can", "z", "", (("in", 0), formula))):
                with self.assertRaises(BadFormula, msg=wrapped):
                    holds(MACHINE, 0, wrapped)

    def test_order_of_errors(self):
        for state in (4, -1, True, None):
            with self.assertRaises(BadStates):
                holds(MACHINE, state, ("bad",), [1])
        with self.assertRaises(BadFormula):
            holds(MACHINE, 0, ("bad",), [1])
        with self.assertRaises(BadStates):
            holds(MACHINE, 0, ("in", 0), [1])
        with self.assertRaises(BadStates):
            holds(MACHINE, 0, ("in", 0), (1,), (2, 1))


class ToldApart(unittest.TestCase):
    def check(self, machine, one, other, marks):
        formula = told_apart(machine, one, other, *marks)
        if formula is None:
            self.assertIn((one, other), same_pairs(machine, marks))
            return
        self.assertLessEqual(formula_depth(formula), 200)
        self.assertTrue(holds(machine, one, formula, *marks))
        self.assertFalse(holds(machine, other, formula, *marks))

    def test_none(self):
        self.assertIsNone(told_apart(MACHINE, 1, 2))
        self.assertIsNone(told_apart(MACHINE, 3, 3))
        self.assertIsNotNone(told_apart(MACHINE, 1, 2, (2,)))

    def test_by_marks(self):
        self.assertEqual(told_apart(MACHINE, 1, 2, (0,), (1,)), ("in", 1))
        self.assertEqual(told_apart(MACHINE, 2, 1, (0,), (1,)), ("not", ("in", 1)))

    def test_at_random(self):
        rng = rng_of(75)
        for _ in range(150):
            machine = some_machine(rng, most_states=6, most_steps=14, own=0.9, unseen=0.8)
            marks = [some_states(rng, machine) for _ in range(rng.choice([0, 0, 1, 2]))]
            same = same_pairs(machine, marks)
            for one in range(len(machine)):
                for other in range(len(machine)):
                    formula = told_apart(machine, one, other, *marks)
                    self.assertEqual(formula is None, (one, other) in same)
                    if formula is not None:
                        self.assertTrue(formula_holds(machine, one, formula, marks))
                        self.assertFalse(formula_holds(machine, other, formula, marks))

    def test_60_states(self):
        chain = Machine(60, [(s, "", "", g) for s in range(60) for g in (s + 1, s + 2) if g < 60])
        ring = Machine(60, [(s, "", "", (s + 1) % 60) for s in range(60)] + [(59, "", "a", 59)])
        for one, other in ((0, 1), (1, 0), (58, 59), (30, 0)):
            self.check(chain, one, other, [])
            self.check(ring, one, other, [])
            self.check(ring, one, other, [(3, 7), (59,)])

    def test_errors(self):
        large = Machine(61, [])
        for one, other in ((61, 0), (0, 61), (-1, 0), (True, 0), (0, None)):
            with self.assertRaises(BadStates):
                told_apart(large, one, other)
        with self.assertRaises(BadStates):
            told_apart(large, 0, 1, [0])
        with self.assertRaises(TooLarge):
            told_apart(large, 0, 1, (0,))
        with self.assertRaises(TooLarge):
            told_apart(large, 0, 0)
