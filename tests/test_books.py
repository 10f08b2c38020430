"""Books: point [17]."""

import unittest

from allbrokers.books import Book
from allbrokers.choices import judge
from allbrokers.errors import BadAllowances, BadName, BadSettings, NoPart, NoPromise, NothingDone
from allbrokers.links import Link
from allbrokers.routes import Route
from brute import rng_of

NO_NAMES = ("", "One", "abcdefghi", "a b", "a1", None, 1, True, ("one",), ["one"], {})


def word(number):
    return "p" + "abcdefghijklmnopqrstuvwxyz"[number]


def picture(book):
    """All that can be asked of a book."""
    names = book.titles()
    return ([(name, type(book[name]).__name__, book[name].settings(), book.promises_of(name)) for name in names], len(book),
            [(name, part.settings()) for name, part in book.entries()])


def past_of(book):
    """The settings that undo returns for each part, until nothing is left; the book is spent by this."""
    found = {}
    for name in book.titles():
        rows = found.setdefault(name, [])
        while True:
            try:
                rows.append(book.undo(name))
            except NothingDone:
                break
            if rows[-1] is None:
                break
    return found


def some_book():
    book = Book()
    book["one"] = Route(repeats=False, outlet=None)
    book["two"] = Link(check="next")
    book.claim("one", "doubled", {"reader": None})
    book.claim("two", "doubled", {})
    book.change("one", window=1)
    return book


class Parts(unittest.TestCase):
    def test_example(self):
        book = Book()
        book["one"] = Route(repeats=False, outlet=None)
        found = [bool(book.claim("one", "doubled", {"reader": None})), book.change("one", outlet=0)[0], book["one"].settings()["outlet"]]
        self.assertEqual(found, [True, "doubled", None])

    def test_parts(self):
        book = Book()
        self.assertEqual((len(book), book.titles(), list(book.entries()), bool(book)), (0, [], [], False))
        book["two"] = Link()
        book["one"] = Route(room=2)
        self.assertEqual((len(book), book.titles()), (2, ["one", "two"]))
        self.assertEqual(list(book.entries()), [("one", Route(room=2)), ("two", Link())])
        self.assertEqual((book["one"], book["two"]), (Route(room=2), Link()))
        self.assertEqual(("one" in book, "three" in book, "two" in book), (True, False, True))
        for name in NO_NAMES:
            self.assertNotIn(name, book)
            with self.assertRaises(NoPart, msg=name) as caught:
                book[name]
            self.assertEqual(caught.exception.name, name)
        book.titles().clear()
        self.assertEqual(book.titles(), ["one", "two"])

    def test_in_the_place_of_an_old_one(self):
        book = some_book()
        book["one"] = Link(check="window")
        self.assertEqual((book["one"], book.promises_of("one"), len(book)), (Link(check="window"), [], 2))
        with self.assertRaises(NothingDone):
            book.undo("one")
        self.assertEqual(book.promises_of("two"), [("doubled", {})])

    def test_bad_names(self):
        book = some_book()
        before = picture(book)
        for name in NO_NAMES:
            with self.assertRaises(BadName, msg=name) as caught:
                book[name] = Route()
            self.assertEqual(caught.exception.name, name)
        for part in (None, Route, "route", {}, Route().settings()):
            for name in ("one", "new"):
                with self.assertRaises(BadName, msg=part) as caught:
                    book[name] = part
                self.assertEqual(caught.exception.name, name)
        self.assertEqual(picture(book), before)

    def test_greatest_number(self):
        self.assertEqual(Book.MOST, 20)
        book = Book()
        for number in range(20):
            book[word(number)] = Link()
        with self.assertRaises(BadName) as caught:
            book["more"] = Link()
        self.assertEqual((caught.exception.name, len(book), "more" in book), ("more", 20, False))
        book[word(3)] = Route()
        self.assertEqual((len(book), book[word(3)]), (20, Route()))

    def test_no_iteration(self):
        for book in (Book(), some_book()):
            with self.assertRaises(TypeError):
                iter(book)
            with self.assertRaises(TypeError):
                list(book)
            with self.assertRaises(TypeError):
                for _ in book:
                    pass

    def test_entries_are_generated(self):
        entries = some_book().entries()
        self.assertEqual(next(entries)[0], "one")
        self.assertEqual(next(entries)[0], "two")
        with self.assertRaises(StopIteration):
            next(entries)


class Claims(unittest.TestCase):
    def test_kept_ones_are_taken_up(self):
        book = some_book()
        for promise, allowances in (("doubled", {"reader": None}), ("lost", {}), ("lost", {"reader": 0}), ("doubled", {"reader": 1})):
            found = book.claim("one", promise, allowances)
            self.assertEqual(found, judge(book["one"], promise, allowances))
            self.assertTrue(found)
        expected = [("doubled", {"reader": None}), ("lost", {}), ("lost", {"reader": 0}), ("doubled", {"reader": 1})]
        self.assertEqual(book.promises_of("one"), expected)

    def test_broken_ones_are_not(self):
        book = some_book()
        found = book.claim("one", "lost", {"leader": 1})
        self.assertFalse(found)
        self.assertEqual(found, judge(book["one"], "lost", {"leader": 1}))
        self.assertEqual(book.promises_of("one"), [("doubled", {"reader": None})])

    def test_given_and_returned_are_copied(self):
        book, allowances, link = some_book(), {"late": 1}, Link()
        book.claim("two", "doubled", allowances)
        allowances["late"] = 7
        book.promises_of("two").clear()
        book.promises_of("two")[1][1]["late"] = 8
        self.assertEqual(book.promises_of("two"), [("doubled", {}), ("doubled", {"late": 1})])
        book["three"] = link
        link.room = 1
        self.assertEqual(book["three"], Link())
        book["two"].settings()["room"] = 1
        self.assertEqual(book["two"].settings()["room"], 2)

    def test_errors(self):
        book = some_book()
        before = picture(book)
        for name in NO_NAMES + ("three",):
            for call in (lambda: book.claim(name, "no", "no"), lambda: book.promises_of(name), lambda: book.change(name, none=1),
                         lambda: book.undo(name)):
                with self.assertRaises(NoPart, msg=name) as caught:
                    call()
                self.assertEqual(caught.exception.name, name)
        for promise in ("untold", "", None, 1):
            with self.assertRaises(NoPromise):
                book.claim("two", promise, "no")
        for allowances in ("no", None, [], {"late": -1}, {"late": True}, {"Late": 1}):
            with self.assertRaises(BadAllowances):
                book.claim("two", "lost", allowances)
        self.assertEqual(picture(book), before)


class Changes(unittest.TestCase):
    def test_kept(self):
        book = some_book()
        self.assertIsNone(book.change("two", room=1, keeps=False))
        self.assertEqual(book["two"], Link(check="next", room=1, keeps=False))
        self.assertEqual(book.promises_of("two"), [("doubled", {})])

    def test_first_broken_promise(self):
        book = some_book()
        book.claim("two", "lost", {"call": 1})
        book.claim("two", "disorder", {})
        before = picture(book)
        promise, run = book.change("two", repeats=False, check="window", window=2)
        self.assertEqual(promise, "lost")
        self.assertEqual(run, judge(Link(repeats=False, check="window", window=2), "lost", {"call": 1}).run)
        self.assertEqual(book.change("two", check="none")[0], "doubled")
        self.assertEqual(picture(book), before)
        with self.assertRaises(NothingDone):
            book.undo("two")

    def test_bad_settings(self):
        book = some_book()
        before = picture(book)
        rows = [({"check": "no"}, "check"), ({"room": 3, "check": "no"}, "room"), ({"check": "no", "copies": 1}, "copies"),
                ({"outlet": 1, "copies": 1}, "outlet"), ({"copies": 1, "outlet": 1}, "copies"), ({"room": True}, "room"),
                ({"self": 1}, "self"), ({"book": 1}, "book"), ({"settings": 1}, "settings"), ({"part": 1, "room": 9}, "part")]
        for told, name in rows:
            with self.assertRaises(BadSettings, msg=told) as caught:
                book.change("two", **told)
            self.assertEqual(caught.exception.name, name)
        with self.assertRaises(BadSettings) as caught:
            book.change("one", need=2, reads="no")
        self.assertEqual(caught.exception.name, "need")
        self.assertEqual(picture(book), before)

    def test_same_values_are_a_change(self):
        book = some_book()
        self.assertIsNone(book.change("two", check="next"))
        self.assertIsNone(book.change("two"))
        self.assertEqual(book.undo("two"), Link(check="next").settings())
        self.assertEqual(book.undo("two"), Link(check="next").settings())
        with self.assertRaises(NothingDone):
            book.undo("two")

    def test_undo(self):
        book = Book()
        book["a"] = Link()
        book.change("a", room=1)
        book.change("a", check="next")
        self.assertEqual(book.undo("a"), Link(room=1).settings())
        self.assertEqual(book["a"], Link(room=1))
        book.change("a", ahead=2)
        self.assertEqual(book.undo("a"), Link(room=1).settings())
        self.assertEqual(book.undo("a"), Link().settings())
        with self.assertRaises(NothingDone):
            book.undo("a")
        self.assertEqual(book["a"], Link())

    def test_undo_is_refused(self):
        book = Book()
        book["a"] = Link()
        book.change("a", check="next")
        self.assertTrue(book.claim("a", "doubled", {}))
        before = picture(book)
        self.assertIsNone(book.undo("a"))
        self.assertEqual(picture(book), before)
        self.assertIsNone(book.undo("a"))
        book.change("a", room=1)
        self.assertEqual(book.undo("a"), Link(check="next").settings())
        self.assertIsNone(book.undo("a"))

    def test_undo_returns_a_new_dict(self):
        book = some_book()
        book.undo("one")["outlet"] = 0
        self.assertIsNone(book["one"].settings()["outlet"])


class Broken(unittest.TestCase):
    def test_rows(self):
        book = some_book()
        book["none"] = Link()
        book["zero"] = Link(repeats=False)
        for promise, allowances in (("lost", {}), ("doubled", {}), ("disorder", {"call": 1})):
            self.assertTrue(book.claim("zero", promise, allowances))
        self.assertEqual(book.broken({}), [])
        found = book.broken({"double": 1, "call": 1, "outrow": 5})
        expected = [("zero", "lost"), ("zero", "doubled")]
        self.assertEqual([row[:2] for row in found], expected)
        for name, promise, run in found:
            self.assertEqual(run, judge(book[name], promise, {"double": 1, "call": 1}).run)
        found = book.broken({"double": 1, "taker": 1, "call": None, "late": None, "reader": 2, "leader": 1})
        self.assertEqual([row[:2] for row in found], [("zero", "lost"), ("zero", "doubled"), ("zero", "disorder")][:len(found)])

    def test_by_names(self):
        book = Book()
        for name in ("c", "a", "b"):
            book[name] = Link(repeats=False)
        book.claim("c", "lost", {})
        book.claim("a", "doubled", {})
        book.claim("a", "lost", {})
        book.claim("a", "lost", {"late": 1})
        found = book.broken({"call": 1, "double": 1})
        self.assertEqual([row[:2] for row in found], [("a", "doubled"), ("a", "lost"), ("a", "lost"), ("c", "lost")])

    def test_allowances(self):
        book = Book()
        for wrong in (None, "no", {"call": -1}):
            self.assertEqual(book.broken(wrong), [])
        book["a"] = Link(repeats=False)
        self.assertEqual(book.broken(None), [])
        book.claim("a", "lost", {})
        for wrong in (None, "no", [], {"call": -1}, {"Call": 1}, {"call": True}):
            with self.assertRaises(BadAllowances):
                book.broken(wrong)


class Stop(Exception):
    pass


class Trials(unittest.TestCase):
    def test_without_an_error(self):
        book = some_book()
        with book.trial() as draft:
            self.assertIs(draft, book)
            draft["new"] = Link()
            self.assertIn("new", book)
            draft.change("two", room=1)
        self.assertEqual((book["new"], book["two"].settings()["room"]), (Link(), 1))

    def spoil(self, book):
        book["three"] = Link()
        book.change("two", room=1)
        book.claim("two", "disorder", {})
        book.undo("one")
        book["one"] = Link()
        book.change("one", room=1)
        book.claim("one", "lost", {})

    def test_left_by_an_error(self):
        book = some_book()
        before = picture(book)
        for error in (Stop, KeyError, BadName, KeyboardInterrupt):
            with self.assertRaises(error):
                with book.trial() as draft:
                    self.spoil(draft)
                    raise error("out")
            self.assertEqual(picture(book), before)
        self.assertEqual(past_of(book), past_of(some_book()))

    def test_refused_in_a_trial(self):
        book = some_book()
        before = picture(book)
        with self.assertRaises(NoPart):
            with book.trial():
                self.spoil(book)
                book.undo("none")
        self.assertEqual(picture(book), before)

    def test_caught_within(self):
        book = some_book()
        with book.trial():
            book["new"] = Link()
            with self.assertRaises(NoPart):
                book.undo("none")
        self.assertIn("new", book)

    def test_in_one_another(self):
        book = some_book()
        with book.trial():
            book["a"] = Link()
            with self.assertRaises(Stop):
                with book.trial():
                    book["b"] = Link()
                    raise Stop
            self.assertEqual(("a" in book, "b" in book), (True, False))
        with self.assertRaises(Stop):
            with book.trial():
                with book.trial():
                    book["c"] = Link()
                raise Stop
        self.assertEqual(book.titles(), ["a", "one", "two"])

    def test_begins_when_it_is_entered(self):
        book = some_book()
        trial = book.trial()
        book["late"] = Link()
        with self.assertRaises(Stop):
            with trial:
                book["more"] = Link()
                raise Stop
        self.assertEqual(book.titles(), ["late", "one", "two"])

    def test_attempt(self):
        book = some_book()
        self.assertEqual(book.attempt(lambda draft: draft.change("two", room=1)), None)
        self.assertEqual(book.attempt(lambda draft: (draft is book, len(draft))), (True, 2))
        self.assertEqual(book["two"].settings()["room"], 1)
        before = picture(book)

        def deed(draft):
            self.spoil(draft)
            raise Stop

        with self.assertRaises(Stop):
            book.attempt(deed)
        self.assertEqual(picture(book), before)


class Model:
    """A book told plainly: dicts and lists that are copied."""

    def __init__(self):
        self.parts, self.promises, self.past = {}, {}, {}

    def keeps(self, name, part):
        return all(judge(part, promise, told) for promise, told in self.promises[name])


class AtRandom(unittest.TestCase):
    def test_against_a_model(self):
        rng = rng_of(17)
        for _ in range(12):
            book, model = Book(), Model()
            for _ in range(40):
                name = rng.choice(["a", "b"])
                deed = rng.choice(["set", "claim", "claim", "change", "change", "change", "undo", "undo"])
                told = rng.choice([{"check": "next"}, {"check": "none"}, {"check": "window"}, {"room": 1}, {"room": 2}, {"repeats": False},
                                   {"repeats": True}])
                if deed == "set" and (name not in model.parts or rng.random() < 0.2):
                    book[name] = Link(room=1, **told) if "room" not in told else Link(**told)
                    model.parts[name], model.promises[name], model.past[name] = book[name], [], []
                elif name in model.parts:
                    self.do(rng, book, model, name, deed, told)
                self.assertEqual(list(book.entries()), sorted(model.parts.items()))
                self.assertEqual([book.promises_of(at) for at in book.titles()], [rows for _, rows in sorted(model.promises.items())])

    def do(self, rng, book, model, name, deed, told):
        if deed == "claim":
            pair = rng.choice(["doubled", "lost", "disorder"]), rng.choice([{}, {"call": 1}, {"inrow": 1}])
            if book.claim(name, *pair) and pair not in model.promises[name]:
                model.promises[name].append(pair)
        elif deed == "change":
            part = Link(**{**model.parts[name].settings(), **told})
            self.assertEqual(book.change(name, **told) is None, model.keeps(name, part))
            if model.keeps(name, part):
                model.past[name].append(model.parts[name])
                model.parts[name] = part
        elif deed == "undo" and model.past[name]:
            part = model.past[name][-1]
            is_kept = model.keeps(name, part)
            self.assertEqual(book.undo(name), part.settings() if is_kept else None)
            if is_kept:
                model.parts[name] = model.past[name].pop()
