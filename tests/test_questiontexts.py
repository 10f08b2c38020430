"""Texts of questions: point [20]."""

import unittest

from allbrokers.errors import BadText
from allbrokers.questiontexts import read_question, write_question
from allbrokers.readererrors import BadQuestion
from brute import rng_of
from slowlanes import AB, ABC, TWELVE, some_question
from test_questions import NO_LETTERS, WRONG, nested

A, B, C = ("last", ("a",)), ("last", ("b",)), ("last", ("c",))


class Writing(unittest.TestCase):
    def test_example(self):
        told = read_question(("a", "b"), "not(seen b|a and a since b) or count a mod 3 is 2")
        self.assertEqual(told, ("either", (("not", ("both", (("seen", ("a", "b")), ("since", ("a",), ("b",))))), ("turns", ("a",), 3, 2))))
        self.assertEqual(write_question(("a", "b"), told), "not (seen a|b and a since b) or count a mod 3 is 2")

    def test_each_kind(self):
        rows = [(("last", ("a", "b")), "last a|b"), (("seen", ("c",)), "seen c"), (("since", ("a", "c"), ("b", "c")), "a|c since b|c"),
                (("just", ("a", "b", "c"), 5), "just 5 a|b|c"), (("count", ("b",), 9), "count 9 b"), (("turns", ("a", "b"), 9, 8), "count a|b mod 9 is 8"),
                (("not", A), "not last a"), (("not", ("not", A)), "not not last a"), (("both", (A, B, C)), "last a and last b and last c"),
                (("either", (A, B)), "last a or last b")]
        for question, text in rows:
            self.assertEqual(write_question(ABC, question), text)
            self.assertEqual(read_question(ABC, text), question)

    def test_parentheses(self):
        rows = [(("not", ("both", (A, B))), "not (last a and last b)"), (("not", ("either", (A, B))), "not (last a or last b)"),
                (("both", (("both", (A, B)), C)), "(last a and last b) and last c"), (("both", (A, ("either", (B, C)))), "last a and (last b or last c)"),
                (("either", (("both", (A, B)), C)), "last a and last b or last c"), (("either", (A, ("either", (B, C)))), "last a or (last b or last c)"),
                (("both", (("not", ("both", (A, B))), C)), "not (last a and last b) and last c"),
                (("either", (("both", (A, ("either", (B, C)))), C)), "last a and (last b or last c) or last c"),
                (("not", ("not", ("either", (A, ("not", B))))), "not not (last a or not last b)"),
                (("both", (("both", (("both", (A, B)), B)), C)), "((last a and last b) and last b) and last c")]
        for question, text in rows:
            self.assertEqual(write_question(ABC, question), text)
            self.assertEqual(read_question(ABC, text), question)

    def test_read_again_to_the_same(self):
        rng = rng_of(20)
        for _ in range(500):
            letters = rng.choice([("a",), AB, ABC, TWELVE, ("aa", "aaa", "zz")])
            question = some_question(rng, letters, rng.randint(1, 7))
            text = write_question(letters, question)
            self.assertEqual(read_question(letters, text), question, text)
            self.assertNotIn("( ", text)
            self.assertNotIn("  ", text)

    def test_nested_20_deep(self):
        self.assertEqual(write_question(AB, nested(20)), "not " * 19 + "seen a")
        deep = A
        for _ in range(19):
            deep = ("both", (deep, B))
        text = "(" * 18 + "last a" + " and last b)" * 18 + " and last b"
        self.assertEqual((write_question(AB, deep), read_question(AB, text)), (text, deep))
        for wrong in (nested(21), ("not", deep)):
            with self.assertRaises(BadQuestion):
                write_question(AB, wrong)

    def test_errors(self):
        for wrong in WRONG:
            with self.assertRaises(BadQuestion, msg=wrong):
                write_question(AB, wrong)
        for letters in NO_LETTERS + [("and", "b"), ("b", "mod"), ("is",)]:
            with self.assertRaises(BadQuestion, msg=letters):
                write_question(letters, ("last", (letters[0],) if letters else ("a",)))


class Reading(unittest.TestCase):
    def refused(self, text, line, column, letters=AB):
        with self.assertRaises(BadText, msg=text) as caught:
            read_question(letters, text)
        self.assertEqual((caught.exception.line, caught.exception.column), (line, column), text)

    def test_loose_texts(self):
        rows = [("  last   b | a ", ("last", ("a", "b"))), ("((last a))", A), ("( not ( (last a) ) )", ("not", A)), ("count3a", ("count", ("a",), 3)),
                ("count 3a|b", ("count", ("a", "b"), 3)), ("count b|a mod9is8", ("turns", ("a", "b"), 9, 8)), ("just5b", ("just", ("b",), 5)),
                ("(last a)and(last b)", ("both", (A, B))), ("(last a)or not(last b)", ("either", (A, ("not", B)))), ("not(not(last a))", ("not", ("not", A))),
                ("(a since b)", ("since", ("a",), ("b",))), ("b|a since a|b", ("since", ("a", "b"), ("a", "b"))),
                ("(last a and last b) or last a", ("either", (("both", (A, B)), A))), ("((last a and last b))", ("both", (A, B))),
                ("not last a and last b", ("both", (("not", A), B))), ("last a or last b and last a", ("either", (A, ("both", (B, A)))))]
        for text, question in rows:
            self.assertEqual(read_question(AB, text), question, text)

    def test_loose_at_random(self):
        rng = rng_of(21)
        for _ in range(300):
            question = some_question(rng, ABC, rng.randint(1, 4))
            text = self.loosened(rng, question)
            self.assertEqual(read_question(ABC, text), question, text)

    def loosened(self, rng, question):
        """A text of a question with blanks, letters in any order, and needless parentheses."""
        def some(letters):
            return rng.choice(["|", " | ", "| "]).join(rng.sample(letters, len(letters)))

        head = question[0]
        if head in ("both", "either"):
            sign = " and " if head == "both" else "  or "
            text = sign.join("( " + self.loosened(rng, part) + ")" for part in question[1])
        elif head == "not":
            text = "not (" + self.loosened(rng, question[1]) + " )"
        elif head == "since":
            text = some(question[1]) + "  since " + some(question[2])
        elif head == "turns":
            text = f"count {some(question[1])} mod {question[2]}is{question[3]}"
        else:
            text = head + rng.choice([" ", "   "]) + (str(question[2]) if len(question) == 3 else "") + some(question[1])
        return rng.choice(["{}", "({})", " (( {}) ) "]).format(text)

    def test_first_word_that_cannot_stand(self):
        rows = [("", 1), ("   ", 4), ("last", 5), ("last ", 6), ("last a and", 11), ("last a or ", 11), ("not", 4), ("(", 2), ("(last a", 8), ("last a|", 8),
                ("a", 2), ("a since", 8), ("count", 6), ("count 3", 8), ("count a", 8), ("count a mod", 12), ("count a mod 3 is", 17), ("just 2", 7),
                ("a b", 3), ("since a", 1), ("last last", 6), ("last c", 6), ("lasta", 1), ("last a b", 8), ("last a last b", 8), ("last a)", 7), (")", 1), ("()", 2),
                ("last a and or last b", 12), ("last a and and", 12), ("and last a", 1), ("or", 1), ("mod", 1), ("is", 1), ("3", 1), ("|", 1), ("|a since b", 1),
                ("last a||b", 8), ("last a|a", 8), ("last a|b|a", 10), ("a|a since b", 3), ("a since b|b", 11), ("seen 3 a", 6), ("last 1", 6),
                ("just a", 6), ("just 0 a", 6), ("just 6 a", 6), ("just 12 a", 6), ("just 01 a", 6), ("just 3 3", 8), ("count 0 a", 7), ("count 10 a", 7),
                ("count 3 a mod 3 is 1", 11), ("count a mod 1 is 0", 13), ("count a mod 0 is 0", 13), ("count a mod 10 is 0", 13), ("count a mod 3 is 3", 18),
                ("count a mod 3 is 12", 18), ("count a mod b is 1", 13), ("count a mod 3 1", 15), ("count a is 3", 9), ("count a 3", 9), ("count c mod 3 is 1", 7),
                ("not not", 8), ("not and", 5), ("not )", 5), ("(last a))", 9), ("((last a)", 10), ("(last a or)", 11), ("last a (last b)", 8), ("not last a not", 12),
                ("last a and not", 15), ("a since since", 9), ("a since not b", 9), ("a and b", 3), ("notlast a", 1), ("last aa", 6), ("last a orlast b", 8)]
        for text, column in rows:
            self.refused(text, 1, column)

    def test_signs_that_are_no_part_of_a_word_come_first(self):
        rows = [("last A", 6), ("last a\n", 7), ("\nlast a", 1), ("last\ta", 5), ("last a & last b", 8), ("wrong word last a.", 18), ("last a and and -", 16), ("#", 1),
                ("not " * 30 + "!", 121), ("last 1_a", 7), ("last a|\u00e4", 8), ("last a,b", 7), ("just \u0663 a", 6), ("last a\u00a0", 7), ("Not last a", 1), ("last a mod 99 [", 15)]
        for text, column in rows:
            self.refused(text, 1, column)

    def test_what_is_no_string(self):
        for wrong in (None, 3, b"last a", ["last a"], ("last", ("a",)), True):
            self.refused(wrong, 0, 0)

    def test_nested_within_20(self):
        self.assertEqual(read_question(AB, "not " * 19 + "last a"), nested(20, A))
        self.assertEqual(read_question(AB, "(" * 20 + "last a" + ")" * 20), A)
        self.assertEqual(read_question(AB, "(not " * 10 + "last a" + ")" * 10), nested(11, A))
        self.assertEqual(read_question(AB, " and ".join(["not " * 10 + "(" * 10 + "last a" + ")" * 10] * 3)), ("both", (nested(11, A),) * 3))
        # What it says is nested 21 deep.
        self.refused("not " * 20 + "last a", 0, 0)
        self.refused("not " * 19 + "(last a and last b)", 0, 0)
        text = "(" * 19 + "last a" + " and last b)" * 19
        self.assertEqual(len(read_question(AB, text)), 2)
        self.refused(text + " and last b", 0, 0)
        # The first one within 20 others, and whatever stands behind it.
        self.refused("not " * 21 + "last a", 1, 81)
        self.refused("not " * 21, 1, 81)
        self.refused("(" * 21 + "last a" + ")" * 21, 1, 21)
        self.refused("not " * 10 + "(" * 10 + "not last a" + ")" * 10, 1, 51)
        self.refused("not " * 20 + "(last a)", 1, 81)
        self.refused("last a or " + "(not " * 15 + "last a", 1, 61)
        # A word that cannot stand is told, also in what is nested too deep.
        self.refused("not " * 20 + "last a last", 1, 88)
        self.refused("not " * 20, 1, 81)

    def test_words_left_out_put_in_or_changed(self):
        rng = rng_of(22)
        words = ["last", "seen", "since", "just", "count", "not", "and", "or", "is", "mod", "a", "b", "c", "d", "0", "1", "2", "5", "9", "10", "|", "(", ")"]
        for _ in range(1500):
            text = write_question(ABC, some_question(rng, ABC, rng.randint(1, 4)))
            told = text.replace("|", " | ").replace("(", "( ").replace(")", " )").split()
            at = rng.randrange(len(told))
            told[at:at + rng.choice([0, 1])] = rng.choice([[], [rng.choice(words)]])
            expected = slow_read(told)
            text = " ".join(told)
            if isinstance(expected, int):
                column = len(text) + 1 if expected == len(told) else len(" ".join(told[:expected] + [""])) + 1 if expected else 1
                self.refused(text, 1, column, ABC)
            else:
                self.assertEqual(read_question(ABC, text), expected, text)

    def test_errors(self):
        for letters in NO_LETTERS + [("and", "b"), ("b", "mod"), ("is",), ("a", "since")]:
            for text in ("last a", None, "?"):
                with self.assertRaises(BadQuestion, msg=letters):
                    read_question(letters, text)


class Refused(Exception):
    pass


def slow_read(words):
    """The question of a list of words on a, b and c, or the place of the first one that cannot stand, by another parser.

    It goes over the words with a stack in place of calls.
    """
    words = words + [None]
    place = 0
    # A level has what is to be joined: a list of lists of questions, and how many nots stand in front of the next one.
    stack = [[[[]], 0]]

    def some(place, end):
        found = []
        while True:
            if words[place] not in ("a", "b", "c") or words[place] in found:
                raise Refused(place)
            found.append(words[place])
            if words[place + 1] != "|":
                return tuple(sorted(found)), place + 1
            place += 2

    def number(place, least, most):
        if words[place] is None or words[place] not in [str(n) for n in range(least, most + 1)]:
            raise Refused(place)
        return int(words[place]), place + 1

    def expect(place, word):
        if words[place] != word:
            raise Refused(place)
        return place + 1

    def plain(place):
        word = words[place]
        if word in ("last", "seen"):
            letters, place = some(place + 1, None)
            return (word, letters), place
        if word == "just" or (word == "count" and words[place + 1] not in ("a", "b", "c")):
            many, place = number(place + 1, 1, 5 if word == "just" else 9)
            letters, place = some(place, None)
            return (word, letters, many), place
        if word == "count":
            letters, place = some(place + 1, None)
            many, place = number(expect(place, "mod"), 2, 9)
            rest, place = number(expect(place, "is"), 0, many - 1)
            return ("turns", letters, many, rest), place
        letters, place = some(place, None)
        others, place = some(expect(place, "since"), None)
        return ("since", letters, others), place

    def closed(level):
        rows = [row[0] if len(row) == 1 else ("both", tuple(row)) for row in level[0]]
        return rows[0] if len(rows) == 1 else ("either", tuple(rows))

    def put(question):
        for _ in range(stack[-1][1]):
            question = ("not", question)
        stack[-1][1] = 0
        stack[-1][0][-1].append(question)

    try:
        while True:
            # A question is to begin here.
            if words[place] == "not":
                stack[-1][1] += 1
                place += 1
                continue
            if words[place] == "(":
                stack.append([[[]], 0])
                place += 1
                continue
            question, place = plain(place)
            put(question)
            while words[place] == ")" and len(stack) > 1:
                question = closed(stack.pop())
                put(question)
                place += 1
            if words[place] == "or":
                stack[-1][0].append([])
            elif words[place] is None and len(stack) == 1:
                return closed(stack[0])
            elif words[place] != "and":
                return place
            place += 1
    except Refused as refused:
        return refused.args[0]
