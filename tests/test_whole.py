"""What point [1] promises of the whole program: arguments are neither changed nor kept, what is returned is new."""

import itertools
import unittest

import allbrokers
from allbrokers import (barring, books, choices, coarsest, deals, delays, errors, falls, handing, histories, joining, keeping, lastrows, limits, links, machines, merging,
                        outside, promises, questions, questiontexts, readererrors, readers, reports, routes, squeezing, texts, times, walking, watching, weaving)
from allbrokers.machines import Machine
from test_language import INTERFACE

AB = ("a", "b")
STEPS = [(0, "x", "a", 1), (1, "", "b", 0), (1, "y", "", 2), (2, "", "", 2), (0, "", "", 3), (3, "", "a", 3)]


def machine():
    return Machine(4, list(STEPS))


def run():
    return [(0, "x", "a", 1), (1, "", "b", 0)]


def reader():
    return readers.Reader(AB, [{"a": 1, "b": 0}, {"a": 1, "b": 2}, {"a": 1, "b": 0}], ["no", "yes", "no"])


def rule():
    return squeezing.Rule(AB, [{"a": 1, "b": 0}, {"a": 1, "b": 1}], [(1, "a")])


def deal():
    return {"k": "x", "l": "x", "m": "y"}


def bounds():
    return {"x": (0, 1), "z": (0, 2)}


def book():
    made = books.Book()
    made["one"] = routes.Route(repeats=False, outlet=None)
    made["two"] = links.Link()
    made.claim("one", "doubled", {"reader": None})
    made.change("two", room=1)
    return made


def evidence():
    """Pairs of evidence and the arguments of its `shows`, each made by a function of the package."""
    m, r, seen = machine(), reader(), questions.reader_of(AB, [("seen", ("a",))])
    weak = questions.reader_of(AB, [("last", ("a",))])
    prices = choices.Choices(True, {"check": {"none": 0, "window": 1, "next": 2}})
    caps = {"x": 1, "y": 1, "z": 1}
    return [(falls.least_falls(m, (2,)), (m, (2,))), (promises.judge_never(m, (2,), {"x": 1}), (m, (2,), {"x": 1})),
            (promises.judge_never(m, (2,), {"x": 1, "y": None}), (m, (2,), {"x": 1, "y": None})), (promises.judge_can(m, (3,), {}), (m, (3,), {})),
            (promises.judge_can(m, (3,), {"x": 1, "y": 1}), (m, (3,), {"x": 1, "y": 1})), (promises.farthest(m, (3,), {"x": 1}), (m, (3,), {"x": 1})),
            (delays.delay(m, (3,), {}), (m, (3,), {})), (delays.delay(m, (), {}), (m, (), {})), (outside.judge_alike(m, m, ("x",)), (m, m, ("x",))),
            (outside.judge_alike(m, Machine(1, []), ()), (m, Machine(1, []), ())), (watching.tells(m, "x", ("x", "y")), (m, "x", ("x", "y"))),
            (watching.tells(Machine(2, [(0, "x", "", 1), (0, "", "a", 0), (1, "", "a", 1)]), "x", ("x",)), (Machine(2, [(0, "x", "", 1), (0, "", "a", 0), (1, "", "a", 1)]), "x", ("x",))),
            (barring.barring(m, (2,)), (m, (2,))), (choices.cheapest(prices, ["doubled"], {"inrow": 1}), (prices, ["doubled"], {"inrow": 1})),
            (readers.judge_alike(r, readers.least(r)), (r, readers.least(r))), (readers.judge_alike(r, least_no()), (r, least_no())),
            (squeezing.judge_rule(rule(), seen), (rule(), seen)), (squeezing.judge_rule(rule(), questions.reader_of(AB, [("count", ("a",), 2)])), (rule(), questions.reader_of(AB, [("count", ("a",), 2)]))),
            (lastrows.last_rows(weak), (weak,)), (lastrows.last_rows(seen), (seen,)), (weaving.judge_weaving(seen, ("a",), ("b",)), (seen, ("a",), ("b",))),
            (weaving.judge_weaving(weak, ("a",), ("b",)), (weak, ("a",), ("b",))), (keeping.least_rate(times.Times([], [2, 0]), 1), (times.Times([], [2, 0]), 1)),
            (deals.least_moves(deal(), bounds()), (deal(), bounds())), (histories.least_history(deal(), [bounds()]), (deal(), [bounds()])),
            (handing.hand_over({"k": "x", "l": "y"}, {"k": "y", "l": "x"}, caps), ({"k": "x", "l": "y"}, {"k": "y", "l": "x"}, caps)),
            (handing.hand_over({"k": "x"}, {"k": "x"}, {"x": 1}), ({"k": "x"}, {"k": "x"}, {"x": 1})),
            (handing.hand_over({"k": "x", "l": "y"}, {"k": "y", "l": "x"}, {"x": 1, "y": 1}), ({"k": "x", "l": "y"}, {"k": "y", "l": "x"}, {"x": 1, "y": 1}))]


def least_no():
    return readers.Reader(AB, [{"a": 0, "b": 0}], ["no"])


def first_ones(generated, many=5):
    return list(itertools.islice(generated, many))


def calls():
    """Triples of a name, a function, and new arguments for it: all that returns something of what it is given."""
    one, other = times.Times([4], [1, 0]), times.Times([], [1])
    question = ("either", (("not", ("since", ("a",), ("b",))), ("count", ("a",), 2)))
    limit = limits.Limits({"loss": 2}, fall=None)
    yield "machines", Machine, (3, [(0, "", "", 1)])
    yield "machines", Machine.showing, ("a", "b")
    yield "machines", machines.last_state, (machine(), run())
    yield "machines", machines.trace_of, (run(),)
    yield "machines", machines.union, (machine(), machine())
    for name in ("behind", "without"):
        yield "machines", getattr(Machine, name), (machine(), 0)
    yield "machines", Machine.reached, (machine(),)
    yield "falls", falls.least_falls, (machine(), (2,))
    yield "falls", falls.falls_of, (machine(), run())
    yield "falls", falls.holds_for, (machine(), (2,), {"x": 1})
    yield "falls", falls.is_within, ((1, 2), [3, None])
    yield "falls", falls.least_of, ([(1, 2), (0, 1), (0, 1)],)
    yield "limits", limits.Limits, ({"loss": 2},)
    yield "limits", limits.Limits.told, (limit,)
    yield "limits", lambda a, b: [a | b, a & b, a + b, a - "loss", a * 2, list(a), a.text()], (limit, limits.Limits(loss=1))
    yield "walking", lambda *told: list(walking.runs(*told)), (machine(), 2)
    yield "walking", walking.is_seen, (run(), "a")
    yield "walking", walking.far_states, (machine(),)
    yield "promises", promises.judge_never, (machine(), (2,), {"x": 1})
    yield "promises", promises.judge_can, (machine(), (3,), {"x": 1})
    yield "promises", promises.farthest, (machine(), (3,), {"x": 1})
    yield "promises", promises.dead_states, (machine(), (3,))
    yield "delays", delays.delay, (machine(), (3,), {"x": 1})
    yield "outside", outside.judge_alike, (machine(), machine(), ("x",))
    yield "outside", outside.is_trace, (machine(), ["a", "b"], ("x",))
    yield "watching", watching.tells, (machine(), "x", ("x", "y"))
    yield "watching", watching.watch, (machine(), ["a"], ("x",))
    yield "watching", lambda *told: [watcher_of(*told).known(), watcher_of(*told).see("b"), list(watcher_of(*told))], (machine(), ("x",))
    yield "barring", barring.barring, (machine(), (2,))
    yield "merging", merging.classes, (machine(), (1,))
    yield "merging", merging.merged, (machine(), (1,))
    yield "merging", merging.do_the_same, (machine(), machine())
    yield "merging", merging.told_apart, (machine(), 0, 1)
    yield "merging", merging.holds, (machine(), 0, ("can", "", "", ()))
    yield "joining", joining.joined, (machine(), machine(), ("a",))
    yield "joining", joining.hidden, (machine(), "a")
    yield "joining", joining.renamed, (machine(), {"a": "c"})
    yield "routes", routes.Route.settings, (routes.Route(),)
    yield "routes", lambda route: (routes.Case(route).states, routes.Case(route).out(), routes.Case(route).bad("lost")), (routes.Route(),)
    yield "links", links.Link.settings, (links.Link(),)
    yield "links", lambda link: links.LinkCase(link).bad("lost"), (links.Link(),)
    yield "choices", choices.judge, (links.Link(), "doubled", {"call": 1})
    yield "choices", lambda told: choices.Choices(True, told).rows(), ({"check": {"none": 0, "next": 1}},)
    yield "choices", choices.cheapest, (choices.Choices(True, {"check": {"none": 0, "next": 1}}), ["doubled"], {"inrow": 1})
    yield "texts", texts.write_machine, (machine(),)
    yield "texts", texts.read_machine, ("states 2\n0 a -> 1\n",)
    yield "texts", texts.write_settings, (links.Link(),)
    yield "texts", texts.read_settings, ("link: room = 1",)
    for name, told in (("titles", ()), ("promises_of", ("one",)), ("broken", ({"reader": 2},))):
        yield "books", getattr(books.Book, name), (book(),) + told
    yield "books", lambda made: list(made.entries()), (book(),)
    yield "reports", reports.report, (routes.Route(), [])
    yield "readers", readers.Reader, (AB, [{"a": 0, "b": 0}], ["x"])
    yield "readers", readers.Reader.answer, (reader(), ["a", "b"])
    yield "readers", lambda *told: list(readers.behind_rows(*told)), (reader(), ["a", "b"])
    yield "readers", readers.least, (reader(),)
    yield "readers", readers.judge_alike, (reader(), reader())
    yield "readers", readers.judge_alike, (reader(), least_no())
    yield "questions", questions.holds, (AB, question, ["a", "b"])
    yield "questions", questions.reader_of, (AB, [question, ("last", ("a",))])
    yield "questiontexts", questiontexts.read_question, (AB, "seen a and not last b")
    yield "questiontexts", questiontexts.write_question, (AB, question)
    yield "squeezing", squeezing.Rule, (AB, [{"a": 0, "b": 0}], [(0, "a")])
    yield "squeezing", squeezing.Rule.kept, (rule(), ["a", "b", "a"])
    yield "squeezing", squeezing.Rule.squeezed, (rule(), ["a", "b", "a"])
    yield "squeezing", squeezing.judge_rule, (rule(), reader())
    yield "squeezing", squeezing.judge_rule, (rule(), questions.reader_of(AB, [("seen", ("a",))]))
    yield "coarsest", coarsest.least_rule, (rule(),)
    yield "coarsest", coarsest.coarsest, (reader(),)
    yield "coarsest", coarsest.coarsest_of, ([reader(), least_no()],)
    yield "coarsest", coarsest.both, ([rule(), rule()],)
    yield "coarsest", coarsest.either, ([rule()],)
    yield "coarsest", coarsest.within, (rule(), rule())
    yield "coarsest", coarsest.drops_more, (rule(), squeezing.Rule(AB, [{"a": 0, "b": 0}], []))
    yield "coarsest", coarsest.keeping_last, (AB, [("a",)])
    yield "lastrows", lastrows.last_rows, (reader(),)
    yield "lastrows", lastrows.last_rows, (questions.reader_of(AB, [("seen", ("a",))]),)
    yield "weaving", weaving.judge_weaving, (reader(), ("a",), ("b",))
    yield "weaving", weaving.judge_weaving, (least_no(), ("a",), ("b",))
    yield "weaving", lambda *told: weaving.Unwoven(*told).weavings(), (["a"], "a", "b", ["b"])
    yield "times", times.Times, ([4], [1, 0])
    yield "times", lambda a, b: [a + b, a * 3, a[2], a.up_to(9), first_ones(a.ticks(start=3))], (one, other)
    yield "times", times.greatest_lag, (one, other)
    yield "times", times.lags, (one, other, 9)
    yield "times", lambda *told: list(times.lag_lines(*told)), (one, other, 9)
    yield "keeping", keeping.least_keeping, (one, [other, other])
    yield "keeping", keeping.least_rate, (one, 1)
    yield "deals", deals.least_moves, (deal(), bounds())
    yield "histories", histories.least_history, (deal(), [bounds(), {"x": (3, 3)}])
    yield "handing", handing.hand_over, ({"k": "x", "l": "y"}, {"k": "y", "l": "x"}, {"x": 1, "y": 1, "z": 1})
    yield "handing", handing.hand_over, ({"k": "x", "l": "y"}, {"k": "y", "l": "x"}, {"x": 1, "y": 1})
    for shown, told in evidence():
        yield "evidence", shown.shows, told


def watcher_of(*told):
    watcher = watching.Watcher(*told)
    watcher.see("a")
    return watcher


def picture(value):
    """What a value is, so that it can be compared when the value was changed."""
    if isinstance(value, (list, tuple)):
        return type(value), [picture(part) for part in value]
    if isinstance(value, dict):
        return dict, [(picture(key), picture(part)) for key, part in value.items()]
    if type(value).__module__.startswith("allbrokers"):
        return type(value), picture(vars(value))
    return value


def spoil(value):
    """Change all lists and dicts in a value, also those in its attributes."""
    if isinstance(value, (list, tuple)):
        parts = list(value)
    elif isinstance(value, dict):
        parts = list(value.values())
    else:
        parts = list(vars(value).values()) if type(value).__module__.startswith("allbrokers") else []
    for part in parts:
        spoil(part)
    if isinstance(value, list):
        value.append("spoilt")
    elif isinstance(value, dict):
        value["spoilt"] = "spoilt"


class Arguments(unittest.TestCase):
    def test_each_module_is_called(self):
        called = {name for name, _, _ in calls()}
        self.assertLessEqual({name for name, words in INTERFACE.items() if words} - {"errors", "readererrors"}, called)

    def test_arguments_are_not_changed(self):
        for name, call, told in calls():
            before = picture(told)
            call(*told)
            self.assertEqual(picture(told), before, (name, call))

    def test_what_is_returned_is_new(self):
        for name, call, told in calls():
            before = picture(told)
            expected = picture(call(*told))
            found = call(*told)
            self.assertEqual(picture(found), expected, (name, call))
            spoil(found)
            self.assertEqual(picture(told), before, (name, call, "an argument is part of what is returned"))
            self.assertEqual(picture(call(*told)), expected, (name, call, "what is returned is kept"))

    def test_arguments_are_not_kept(self):
        for name, call, told in calls():
            found = call(*told)
            expected = picture(found)
            for part in told:
                if isinstance(part, (list, dict)):
                    spoil(part)
            self.assertEqual(picture(found), expected, (name, call))

    def test_evidence_copies(self):
        for shown, _ in evidence():
            told = [list(part) if isinstance(part, list) else part for part in vars(shown).values()]
            made = type(shown)(*told)
            self.assertEqual(made, shown)
            expected = picture(made)
            spoil(told)
            self.assertEqual(picture(made), expected, type(shown))

    def test_evidence_of_lists_and_of_tuples(self):
        for shown, told in evidence():
            made = type(shown)(*[tuple(part) if isinstance(part, list) else part for part in vars(shown).values()])
            self.assertEqual(made, shown)
            self.assertEqual(picture(made), picture(shown))
            self.assertTrue(made.shows(*told), type(shown))

    def test_evidence_shows(self):
        for shown, told in evidence():
            self.assertIs(shown.shows(*told), True, type(shown))


class Refusals(unittest.TestCase):
    def refused(self, call, *told, **named):
        with self.assertRaises(errors.BrokerError):
            call(*told, **named)

    def test_books(self):
        made = book()
        before = self.look(made)
        self.refused(made.__setitem__, "No", links.Link())
        self.refused(made.__setitem__, "one", None)
        self.refused(made.__getitem__, "none")
        self.refused(made.claim, "none", "lost", {})
        self.refused(made.claim, "two", "untold", {})
        self.refused(made.claim, "two", "lost", {"call": -1})
        self.refused(made.change, "none", room=1)
        self.refused(made.change, "two", room=3)
        self.refused(made.change, "two", room=1, need=1)
        self.refused(made.undo, "one")
        self.refused(made.undo, "none")
        self.refused(made.promises_of, "none")
        self.refused(made.broken, {"reader": -1})
        self.assertIsNotNone(made.change("one", outlet=0))
        with self.assertRaises(ZeroDivisionError):
            made.attempt(fail_behind_changes)
        self.assertEqual(self.look(made), before)
        while len(made) < books.Book.MOST:
            made["n" + "abcdefghijklmnopqrst"[len(made)]] = links.Link()
        before = self.look(made)
        self.refused(made.__setitem__, "more", links.Link())
        self.assertEqual(self.look(made), before)

    def look(self, made):
        return [(name, part.settings(), made.promises_of(name), picture(made)) for name, part in made.entries()]

    def test_watchers(self):
        watcher = watcher_of(machine(), ("x", "y"))
        before = picture(watcher)
        self.refused(watcher.see, "b", "c")
        self.refused(watcher, "c")
        self.refused(watcher.see, "b", "")
        self.refused(watcher.ask, "z")
        self.assertEqual(picture(watcher), before)
        self.assertEqual(watcher.see("b"), watcher_of(machine(), ("x", "y")).see("b"))

    def test_steppers(self):
        go = walking.stepper(machine())
        self.refused(go, (1, "", "b", 0))
        self.refused(go, None)
        self.assertEqual(go(), 3)
        self.refused(go, (0, "x", "a", 1))
        self.assertEqual(go(), 3)

    def test_readers_rules_and_times(self):
        for made, bad in ((reader(), [("after", ["c"]), ("answer", None), ("after", ["a"], 9)]), (rule(), [("kept", ["c"]), ("squeezed", None)]),
                          (times.Times([99], [1]), [("__add__", times.Times([99], [1])), ("__mul__", 2), ("__mul__", None)])):
            before = picture(made)
            for name, *told in bad:
                self.refused(getattr(made, name), *told)
            self.assertEqual(picture(made), before)

    def test_refused_calls_change_no_arguments(self):
        bad = {"x": (5, 2)}
        rows = [(deals.least_moves, deal(), bad), (deals.least_moves, {"k": 1}, bounds()), (deals.least_moves, deal(), {"x": (0, 1)}), (histories.least_history, deal(), [bounds(), bad]),
                (histories.least_history, deal(), [bounds(), {"x": (0, 1)}]), (handing.hand_over, deal(), {"k": "x"}, {"x": 3, "y": 3}), (handing.hand_over, deal(), deal(), {"x": 1, "y": 1}),
                (readers.Reader, AB, [{"a": 0}], ["x"]), (squeezing.Rule, AB, [{"a": 0, "b": 0}], [(1, "a")]), (questions.reader_of, AB, [("last", ("c",))]),
                (coarsest.both, [rule(), None]), (coarsest.coarsest_of, [reader(), None]), (keeping.least_keeping, times.Times([], [1]), [None]), (times.Times, [101], [1]),
                (weaving.judge_weaving, reader(), ("a",), ("a",)), (choices.Choices, True, {"check": {}}), (joining.renamed, machine(), {"a": ""}), (Machine, 2, [(0, "", "", 2)]),
                (promises.judge_never, machine(), (2,), {"z": 1}), (machines.last_state, machine(), [(0, "x", "a", 1), (0, "x", "a", 1)])]
        for call, *told in rows:
            before = picture(told)
            self.refused(call, *told)
            self.assertEqual(picture(told), before)


def fail_behind_changes(draft):
    draft["three"] = links.Link()
    draft.claim("two", "disorder", {})
    draft.change("two", window=2)
    draft.undo("two")
    raise ZeroDivisionError


class Errors(unittest.TestCase):
    def test_all_are_direct_subclasses(self):
        for module in (errors, readererrors):
            for name, value in vars(module).items():
                if isinstance(value, type) and value is not errors.BrokerError:
                    self.assertEqual(value.__bases__, (errors.BrokerError,), name)
        self.assertEqual(errors.BrokerError.__bases__, (ValueError,))

    def test_the_package_binds_no_names(self):
        self.assertIsNotNone(allbrokers.__doc__)
