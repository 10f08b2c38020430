"""Texts: point [16]."""

import re
import time
import unittest

from allbrokers.errors import BadSettings, BadText
from allbrokers.links import Link
from allbrokers.machines import Machine
from allbrokers.routes import Case, Route
from allbrokers.texts import read_machine, read_settings, write_machine, write_settings
from brute import rng_of, some_machine
from test_links import all_settings
from test_routes import some_settings

TEXT = "states 3\n0 -> 1\n0 !x -> 2\n1 a -> 0\n2 !x b -> 2\n"
MACHINE = Machine(3, [(0, "", "", 1), (0, "x", "", 2), (1, "", "a", 0), (2, "x", "b", 2)])


def tokens_of(line):
    """Triples of a column, a token, and whether it is a word."""
    found = re.finditer("[a-z]+|[0-9]+|->|[!=:,]|[^ ]", line.split("#")[0])
    return [(match.start() + 1, match.group()) for match in found]


def class_of(token, many):
    if re.fullmatch("0|[1-9][0-9]{0,5}", token):
        return "N" if int(token) < many else "X"
    if re.fullmatch("[a-z]{1,8}", token):
        return "W"
    return {"->": ">", "!": "!"}.get(token, "X")


def first_bad(line, told, forms):
    """The column of the first token that no form goes on by, or one behind the line; None if all is well."""
    tokens = tokens_of(line)
    for at in range(len(tokens)):
        if not any(form.startswith(told[:at + 1]) for form in forms):
            return tokens[at][0]
    return None if told in forms else len(line) + 1


def bad_place(text):
    """Line and column of the first thing that does not fit in the text of a machine; None if it is one."""
    many = None
    for place, line in enumerate(text.split("\n"), 1):
        tokens = [token for _, token in tokens_of(line)]
        if not tokens:
            continue
        if many is None:
            told = "".join("S" if at == 0 and token == "states" else class_of(token, 3001) for at, token in enumerate(tokens))
            told = "".join("X" if token == "0" else sign for token, sign in zip(tokens, told))
            column = first_bad(line, told, ["SN"])
            if column is None:
                many = int(tokens[1])
        else:
            told = "".join(class_of(token, many) for token in tokens)
            column = first_bad(line, told, ["N>N", "NW>N", "N!W>N", "N!WW>N"])
        if column is not None:
            return place, column
    return None if many is not None else (len(text.split("\n")), 1)


class WriteMachine(unittest.TestCase):
    def test_examples(self):
        self.assertEqual(write_machine(Machine(2, [(0, "x", "", 1), (1, "", "a", 0)])), "states 2\n0 !x -> 1\n1 a -> 0\n")
        self.assertEqual(write_machine(MACHINE), TEXT)
        self.assertEqual(write_machine(Machine(1, [])), "states 1\n")

    def test_read_back(self):
        rng = rng_of(16)
        for _ in range(200):
            machine = some_machine(rng, most_states=12, most_steps=20, words=("a", "abcdefgh", "states"))
            self.assertEqual(read_machine(write_machine(machine)), machine)
        machine = Case(Route(place="with", window=None)).machine
        self.assertEqual(read_machine(write_machine(machine)), machine)


class ReadMachine(unittest.TestCase):
    def test_loose_texts(self):
        for text in (TEXT, TEXT[:-1], TEXT + "\n\n  \n", "# first\n\n   # second\n" + TEXT + "#",
                     "states3\n0->1\n0!x->2\n1a->0\n2!x b->2", "  states   3  # three\n 0  ->  1#\n0 ! x -> 2\n1 a->0 ##\n2!x b  ->2   ",
                     "states 3\n2 !x b -> 2\n1 a -> 0\n0 !x -> 2\n0 -> 1\n0 -> 1\n0 !x -> 2", TEXT.replace("\n", "#!?\r\t%\n")):
            self.assertEqual(read_machine(text), MACHINE, text)

    def test_edges_of_numbers(self):
        self.assertEqual(len(read_machine("states 3000")), 3000)
        self.assertEqual(read_machine("states 3000\n2999 -> 0").steps, ((2999, "", "", 0),))
        for text, place in (("states 3001", (1, 8)), ("states 0", (1, 8)), ("states 03", (1, 8)), ("states 1234567", (1, 8)),
                            ("states 00", (1, 8)), ("states 2\n2 -> 0", (2, 1)), ("states 2\n1 -> 2", (2, 6)),
                            ("states 2\n01 -> 0", (2, 1)), ("states 2\n0 -> 00", (2, 6)), ("states 2\n0 -> 0000000", (2, 6)),
                            ("states 3000\n3000 -> 0", (2, 1)), ("states " + "9" * 5000, (1, 8))):
            self.refused(text, place)

    def test_words(self):
        self.assertEqual(read_machine("states 1\n0 !abcdefgh abcdefgh -> 0").steps, ((0, "abcdefgh", "abcdefgh", 0),))
        self.assertEqual(read_machine("states 1\n0 states -> 0").steps, ((0, "", "states", 0),))
        self.refused("states 1\n0 !abcdefghi -> 0", (2, 4))
        self.refused("states 1\n0 abcdefghi -> 0", (2, 3))
        self.refused("states 1\n0 !a abcdefghi -> 0", (2, 6))

    def refused(self, text, place):
        with self.assertRaises(BadText, msg=text) as caught:
            read_machine(text)
        self.assertEqual((caught.exception.line, caught.exception.column), place, text)

    def test_places(self):
        rows = [
            ("", (1, 1)), ("\n", (2, 1)), ("   ", (1, 1)), ("#a\n # b\n\n", (4, 1)), ("state 3", (1, 1)), ("3", (1, 1)),
            ("states", (1, 7)), ("states  ", (1, 9)), ("states # three", (1, 15)), ("states three", (1, 8)), ("states 3 4", (1, 10)),
            ("states 3\n0", (2, 2)), ("states 3\n0 ->", (2, 5)), ("states 3\n0 -> # end", (2, 11)), ("states 3\n0 - > 1", (2, 3)),
            ("states 3\n0 !-> 1", (2, 4)), ("states 3\n0 a b -> 1", (2, 5)), ("states 3\n0 !a b c -> 1", (2, 8)),
            ("states 3\n0 a !b -> 1", (2, 5)), ("states 3\n0 -> 1 2", (2, 8)), ("states 3\n0 -> 1 -> 2", (2, 8)),
            ("states 3\n0 A -> 1", (2, 3)), ("states 3\n0 aA -> 1", (2, 4)), ("states 3\n\t0 -> 1", (2, 1)), ("states 3\r\n0 -> 1", (1, 9)),
            ("states 3\n0 -> 1\n\n# x\n 5 -> 1\n?", (5, 2)), ("states 3\n0 -> 9 ?", (2, 6)), ("states 3\n0 a1 -> 1", (2, 4)),
            ("states 3\nstates 3", (2, 1)), ("states 3\n0 = 1", (2, 3)), ("?states 3", (1, 1)), ("states\n3", (1, 7)), ("states -3", (1, 8)),
            ("states 3\n-1 -> 0", (2, 1)), ("states 3\n0 > 1", (2, 3)), ("states 3\n0 --> 1", (2, 3)), ("states 3\n0 ->> 1", (2, 5)),
        ]
        for text, place in rows:
            self.refused(text, place)
            self.assertEqual(bad_place(text), place, text)

    def test_not_a_string(self):
        for text in (None, 3, b"states 3", ["states 3"], True):
            self.refused(text, (0, 0))

    def test_spoilt_at_random(self):
        rng = rng_of(161)
        signs, many = "0123 !->=:,#abX\n?", 0
        for _ in range(6000):
            at = rng.randrange(len(TEXT))
            text = rng.choice([TEXT[:at] + rng.choice(signs) + TEXT[at:], TEXT[:at] + TEXT[at + 1:], TEXT[:at] + rng.choice(signs) + TEXT[at + 1:],
                               TEXT[:at] + rng.choice([" states ", " 0 ", " -> ", " a ", " ! "]) + TEXT[at:], TEXT[:at]])
            place = bad_place(text)
            if place is None:
                read_machine(text)
            else:
                many += 1
                self.refused(text, place)
        self.assertGreater(many, 2000)

    def test_many_lines(self):
        begin = time.perf_counter()
        text = "states 3000\n" + "".join(f"{state} !loss word -> {state // 2} # {state}\n" for state in range(3000) for _ in range(10))
        self.assertEqual(len(read_machine(text).steps), 3000)
        self.assertLess(time.perf_counter() - begin, 20)


class WriteSettings(unittest.TestCase):
    def test_examples(self):
        text = "link: ahead = 1, repeats = yes, room = 1, check = next, window = 1, keeps = yes\n"
        self.assertEqual(write_settings(read_settings("link: check=next, room = 1 # small")), text)
        text = "route: repeats = no, room = 1, need = 0, copies = 1, choice = longest, window = all, reads = any, place = after, outlet = 0\n"
        self.assertEqual(write_settings(Route(repeats=False, need=0, window=None)), text)

    def test_read_back(self):
        rng = rng_of(162)
        for _ in range(200):
            route = Route(**some_settings(rng))
            self.assertEqual(read_settings(write_settings(route)), route)
        for told in all_settings():
            self.assertEqual(read_settings(write_settings(Link(**told))), Link(**told))


class ReadSettings(unittest.TestCase):
    def refused(self, text, place):
        with self.assertRaises(BadText, msg=text) as caught:
            read_settings(text)
        self.assertEqual((caught.exception.line, caught.exception.column), place, text)

    def test_loose_texts(self):
        rows = [("route:", Route()), ("link :", Link()), ("# none\n\n  route  :  # here\n # end\n", Route()),
                ("route:outlet=all,window=all", Route(outlet=None, window=None)), ("route: place = with , repeats=no", Route(place="with", repeats=False)),
                ("route: need=2,copies=2\n", Route(need=2, copies=2)), ("link:keeps=no,keeps=no"[:13], Link(keeps=False)),
                ("link: window = 2,room = 1,check = window", Link(window=2, room=1, check="window"))]
        for text, part in rows:
            found = read_settings(text)
            self.assertEqual(found, part, text)
            self.assertIs(type(found), type(part))

    def test_places(self):
        rows = [
            ("", (1, 1)), ("#\n", (2, 1)), ("routes:", (1, 1)), ("route", (1, 6)), ("route  # x", (1, 11)), ("route = 1", (1, 7)),
            ("route:,", (1, 7)), ("route: room", (1, 12)), ("route: room =", (1, 14)), ("route: room = 1,", (1, 17)), ("route: room = 1, ", (1, 18)),
            ("route: room = 1 need = 1", (1, 17)), ("route: room = 1,, need = 1", (1, 17)), ("route: ahead = 1", (1, 8)),
            ("link: copies = 1", (1, 7)), ("route: room = 1, room = 1", (1, 18)), ("route: room = ten", (1, 15)), ("route: room = 10", (1, 15)),
            ("route: room = 01", (1, 15)), ("route: room = yes", (1, 15)), ("route: repeats = 1", (1, 18)), ("route: repeats = all", (1, 18)),
            ("route: repeats = maybe", (1, 18)), ("route: choice = 1", (1, 17)), ("route: choice = longestest", (1, 17)), ("route: room : 1", (1, 13)),
            ("route: room = 1 1", (1, 17)), ("route: room = 1\nlink:", (2, 1)), ("route:\n\n  # x\n room = 1", (4, 2)), ("route: Room = 1", (1, 8)),
            ("route: room = -1", (1, 15)), ("link: check = ", (1, 15)), ("link link:", (1, 6)), (": room = 1", (1, 1)), ("route: room = 1;", (1, 16)),
            ("route: window = none", (1, 17)), ("link: window = 11", (1, 16)), ("route: choice = !", (1, 17)), ("route: nine = 9", (1, 8)),
            ("route\n: room = 1", (1, 6)),
        ]
        for text, place in rows:
            self.refused(text, place)
        for text in (None, 3, b"route:", ["route:"]):
            self.refused(text, (0, 0))

    def test_bad_settings(self):
        rows = [("route: room = 3", "room"), ("route: room = all", "room"), ("route: copies = 0", "copies"), ("route: need = 2", "need"),
                ("route: need = all, copies = 9", "copies"), ("route: choice = all", "choice"), ("route: reads = no", "reads"),
                ("route: place = yes", "place"), ("route: outlet = 3, window = 3", "window"), ("route: outlet = 9", "outlet"),
                ("link: ahead = all", "ahead"), ("link: check = all", "check"), ("link: window = 0", "window"), ("link: window = all, room = 0", "room")]
        for text, name in rows:
            with self.assertRaises(BadSettings, msg=text) as caught:
                read_settings(text)
            self.assertEqual(caught.exception.name, name, text)

    def test_text_first(self):
        self.refused("route: room = 3\nmore", (2, 1))
        self.refused("route: room = 3, need", (1, 22))

    def test_one_word_spoilt(self):
        text = write_settings(Route())[:-1]
        tokens = tokens_of(text)
        for at, (column, token) in enumerate(tokens):
            self.refused(text[:column - 1] + "?" + text[column - 1:], (1, column))
            without = text[:column - 1] + " " * len(token) + text[column - 1 + len(token):]
            self.refused(without, (1, tokens[at + 1][0] if at + 1 < len(tokens) else len(text) + 1))
