"""Questions: point [20]."""

import time
import unittest

from allbrokers.questions import holds, reader_of
from allbrokers.readererrors import BadLane, BadQuestion
from allbrokers.readers import Reader, judge_alike, least
from brute import rng_of
from slowlanes import AB, ABC, TWELVE, lanes, plain_question, product_of_question, slow_holds, some_question

HEADS = ("last", "seen", "since", "just", "count", "turns")


def nested(depth, inner=("seen", ("a",))):
    question = inner
    for _ in range(depth - 1):
        question = ("not", question)
    return question


# Values that are no questions on the letters a and b.
WRONG = [None, 3, "last", (), [], ("last",), ["last", ("a",)], ("last", ("a",), 1), ("first", ("a",)), (None, ("a",)), ([], ("a",)),
         ("last", ["a"]), ("last", "a"), ("last", ()), ("last", ("b", "a")), ("last", ("a", "a")), ("last", ("c",)), ("last", (1,)), ("last", ("a", None)),
         ("seen", None), ("since", ("a",)), ("since", ("a",), ()), ("since", (), ("a",)), ("since", ("a",), ("b", "a")), ("since", ("a",), ("b",), 1),
         ("just", ("a",)), ("just", ("a",), 0), ("just", ("a",), 6), ("just", ("a",), True), ("just", ("a",), "1"), ("just", ("a",), -1), ("just", 1, ("a",)),
         ("count", ("a",), 0), ("count", ("a",), 10), ("count", ("a",), None), ("count", ("a",), False), ("count", ("a",), 1, 1),
         ("turns", ("a",), 1, 0), ("turns", ("a",), 10, 0), ("turns", ("a",), 3, 3), ("turns", ("a",), 3, -1), ("turns", ("a",), 3), ("turns", ("a",), 3, True),
         ("turns", ("a",), True, 0), ("turns", ("a",), "2", 0), ("turns", ("a",), 2, "0"),
         ("not",), ("not", None), ("not", ("last", ("a",)), ("last", ("a",))), ("not", (("last", ("a",)),)),
         ("both", ()), ("both", (("last", ("a",)),)), ("both", [("last", ("a",)), ("last", ("b",))]), ("both", ("last", ("a",)), ("last", ("b",))),
         ("either", (("last", ("a",)), None)), ("either", ("last", ("a",))), ("either", (("last", ("a",)), ("last", ("c",)))), ("either",), nested(21)]
NO_LETTERS = [None, [], ["a", "b"], (), ("b", "a"), ("a", "a"), ("A",), ("a", 1), "ab", tuple("abcdefghijklm"), ("abcdefghi",), ("",)]


class Holds(unittest.TestCase):
    def test_each_kind(self):
        rng = rng_of(20)
        for head in HEADS:
            for _ in range(40):
                question = plain_question(rng, ABC, head)
                for lane in lanes(ABC, 5):
                    self.assertEqual(holds(ABC, question, lane), slow_holds(question, lane), (question, lane))

    def test_all_plain_questions_of_one_letter(self):
        questions = [("just", ("a",), n) for n in range(1, 6)] + [("count", ("a",), n) for n in range(1, 10)]
        questions += [("turns", ("a",), n, rest) for n in range(2, 10) for rest in range(n)]
        for question in questions:
            for length in range(25):
                for lane in (["a"] * length, ["b"] + ["a"] * length, ["a"] * length + ["b"], ["a", "b"] * length):
                    self.assertIs(holds(AB, question, tuple(lane)), slow_holds(question, lane), (question, lane))

    def test_nested(self):
        rng = rng_of(201)
        for _ in range(200):
            question = some_question(rng, ABC, rng.randint(2, 6))
            for lane in lanes(ABC, 3):
                self.assertEqual(holds(ABC, question, lane), slow_holds(question, lane), (question, lane))
            lane = [rng.choice(ABC) for _ in range(rng.randint(4, 40))]
            self.assertEqual(holds(ABC, question, lane), slow_holds(question, lane))

    def test_by_hand(self):
        since = ("since", ("a",), ("b",))
        told = [holds(ABC, since, list(lane)) for lane in ("", "c", "a", "ab", "acc", "aba", "abcc", "bac", "b")]
        self.assertEqual(told, [False, False, True, False, True, True, False, True, False])
        # The last row that is one of both kinds is not behind itself.
        self.assertEqual([holds(AB, ("since", ("a", "b"), ("b",)), list(lane)) for lane in ("b", "ab", "")], [True, True, False])
        self.assertEqual([holds(AB, ("last", ("a",)), list(lane)) for lane in ("", "a", "ab", "ba")], [False, True, False, True])
        self.assertEqual([holds(AB, ("just", ("a",), 2), list(lane)) for lane in ("", "a", "aa", "aba", "baa", "aaa")], [False, False, True, False, True, True])
        self.assertEqual([holds(AB, ("turns", ("a",), 2, 0), list(lane)) for lane in ("", "a", "aba", "bb")], [True, False, True, True])

    def test_nested_20_deep(self):
        self.assertIs(holds(AB, nested(20), ["a"]), False)
        self.assertIs(holds(AB, nested(20), []), True)
        deep = ("last", ("a",))
        for _ in range(19):
            deep = ("either", (("last", ("b",)), deep))
        self.assertIs(holds(AB, deep, ["a"]), True)
        for wrong in (("not", deep), ("both", (("last", ("a",)), deep)), nested(21), nested(5000)):
            with self.assertRaises(BadQuestion):
                holds(AB, wrong, ["a"])

    def test_what_is_no_question(self):
        for wrong in WRONG:
            for question in (wrong, ("not", wrong), ("both", (("last", ("a",)), wrong))):
                with self.assertRaises(BadQuestion, msg=question):
                    holds(AB, question, [])
        for letters in NO_LETTERS:
            with self.assertRaises(BadQuestion, msg=letters):
                holds(letters, ("last", ("a",)), [])

    def test_lanes(self):
        for lane in (None, "ab", ["c"], {"a": 1}, ["a", 1], [["a"]], 3):
            with self.assertRaises(BadLane, msg=lane):
                holds(AB, ("last", ("a",)), lane)
            with self.assertRaises(BadQuestion):
                holds(AB, ("last", ("c",)), lane)
            with self.assertRaises(BadQuestion):
                holds(("b", "a"), ("last", ("a",)), lane)

    def test_long_lanes_and_many_letters(self):
        lane = list(TWELVE) * 20000
        self.assertIs(holds(TWELVE, ("both", (("turns", ("l",), 8, 0), ("just", TWELVE, 5))), lane), True)
        self.assertIs(holds(("a",), ("count", ("a",), 9), ["a"] * 9), True)


class ReaderOf(unittest.TestCase):
    def test_example(self):
        told = reader_of(("a", "b"), [("since", ("a",), ("b",)), ("count", ("b",), 2)])
        self.assertEqual([len(told), told.answer(["a", "b", "b"]), holds(("a", "b"), ("turns", ("a",), 2, 1), ["a", "b", "a", "a"])], [6, "ny", True])

    def compare(self, letters, questions, most):
        told = reader_of(letters, questions)
        self.assertEqual(told, least(told), questions)
        for lane in lanes(letters, most):
            self.assertEqual(told.answer(lane), "".join("y" if slow_holds(part, lane) else "n" for part in questions), (questions, lane))
        return told

    def test_each_kind_alone(self):
        rng = rng_of(202)
        for head in HEADS:
            for _ in range(12):
                self.compare(ABC, [plain_question(rng, ABC, head)], 6)

    def test_sizes(self):
        for number in range(1, 6):
            self.assertEqual(len(reader_of(AB, [("just", ("a",), number)])), number + 1)
        for number in range(1, 10):
            self.assertEqual(len(reader_of(AB, [("count", ("b",), number)])), number + 1)
            self.assertEqual(len(reader_of(AB, [("turns", ("b",), max(2, number), 1)])), max(2, number))
        self.assertEqual([len(reader_of(AB, [(head, ("a", "b"))])) for head in ("last", "seen")], [2, 2])
        self.assertEqual(reader_of(AB, [("last", ("a",))]), Reader(AB, [{"a": 1, "b": 0}, {"a": 1, "b": 0}], ["n", "y"]))
        self.assertEqual(len(reader_of(AB, [("either", (("last", ("a",)), ("not", ("last", ("a",)))))])), 1)

    def test_several_and_nested(self):
        rng = rng_of(203)
        tried = 0
        while tried < 120:
            questions = [some_question(rng, AB, rng.randint(1, 4)) for _ in range(rng.randint(1, 8))]
            size = 1
            for question in questions:
                size *= product_of_question(question)
            if size <= 1000:
                tried += 1
                told = self.compare(AB, questions, 5)
                for _ in range(20):
                    lane = [rng.choice(AB) for _ in range(rng.randint(6, 40))]
                    self.assertEqual(told.answer(lane), "".join("y" if slow_holds(part, lane) else "n" for part in questions))

    def test_least_by_slow_minimisation(self):
        rng = rng_of(204)
        for _ in range(40):
            told = reader_of(AB, [some_question(rng, AB, 2)])
            # No two of its states have the same answers behind all lanes, and some lane leads to each.
            self.assertTrue(judge_alike(told, least(told)))
            for low in range(len(told)):
                for high in range(low):
                    self.assertTrue(any(told.answers[told.after(lane, low)] != told.answers[told.after(lane, high)] for lane in lanes(AB, 9)))

    def test_product_of_1000(self):
        begin = time.perf_counter()
        questions = [("count", ("a",), 9), ("count", ("b",), 9), ("count", ("c",), 9)]
        told = reader_of(TWELVE, questions)
        self.assertEqual(len(told), 1000)
        self.assertEqual(told.answer(["a", "b", "c"] * 9), "yyy")
        self.assertEqual(told.answer(["a", "b", "c"] * 8 + ["a", "c"]), "yny")
        rng = rng_of(205)
        for _ in range(200):
            lane = [rng.choice(ABC) for _ in range(30)]
            self.assertEqual(told.answer(lane), "".join("y" if slow_holds(part, lane) else "n" for part in questions))
        turns = reader_of(ABC, [("turns", ("a",), 5, 0), ("turns", ("b",), 5, 4), ("turns", ("c",), 8, 2), ("just", ("a", "b", "c"), 4)])
        # 1, 3, 6 and 10 states behind less than 4 rows, and all rests behind more.
        self.assertEqual(len(turns), 220)
        mixed = [("both", (("turns", ("a",), 8, 0), ("just", ("b",), 4))), ("not", ("either", (("count", ("c",), 4), ("turns", ("c",), 5, 2))))]
        self.assertEqual(product_of_question(mixed[0]) * product_of_question(mixed[1]), 1000)
        self.compare(ABC, mixed, 6)
        self.assertLess(time.perf_counter() - begin, 30)

    def test_eight_questions(self):
        questions = [("seen", (letter,)) for letter in TWELVE[:8]]
        told = reader_of(TWELVE, tuple(questions))
        self.assertEqual((len(told), told.answer(["b", "l", "h"])), (256, "nynnnnny"))

    def test_letters_alike(self):
        long = ("a", "aaaaaaaa", "b")
        self.assertEqual(reader_of(long, [("last", ("aaaaaaaa",))]).answer(["a", "aaaaaaaa"]), "y")
        # Words of the language of texts are letters like others here.
        self.assertEqual(reader_of(("and", "seen"), [("seen", ("and",))]).answer(["seen", "and"]), "y")

    def test_errors(self):
        for wrong in WRONG:
            for questions in ([wrong], [("last", ("a",)), wrong]):
                with self.assertRaises(BadQuestion, msg=questions):
                    reader_of(AB, questions)
        for questions in (None, [], (), ("last", ("a",)), "last a", {"last": ("a",)}, [("last", ("a",))] * 9):
            with self.assertRaises(BadQuestion, msg=questions):
                reader_of(AB, questions)
        for letters in NO_LETTERS:
            with self.assertRaises(BadQuestion, msg=letters):
                reader_of(letters, [("last", ("a",))])
