"""Choices: point [15]."""

import copy
import itertools
import time
import unittest

from allbrokers.choices import Cheapest, Choices, cheapest, judge
from allbrokers.errors import BadAllowances, BadPrices, NoPromise, NoSettings, TooLarge
from allbrokers.links import Link, LinkCase
from allbrokers.promises import judge_never
from allbrokers.routes import Case, Route
from brute import rng_of

LINK_PRICES = {"check": {"none": 0, "window": 1, "next": 2}}
ROUTE_PRICES = {"repeats": {True: 2, False: 0}, "place": {"with": 3, "before": 1, "after": 0}, "outlet": {0: 0, 1: 1, None: 4}}


def case_of(part):
    return LinkCase(part) if isinstance(part, Link) else Case(part)


def is_kept(part, promise, allowances):
    case = case_of(part)
    own = {kind: limit for kind, limit in allowances.items() if kind in case.machine.kinds}
    return judge_never(case.machine, case.bad(promise), own)


def all_rows(is_link, told):
    """The rows by a trial of all choices."""
    found = []
    for values in itertools.product(*[list(prices) for prices in told.values()]):
        choice = tuple(zip(told, values))
        try:
            (Link if is_link else Route)(**dict(choice))
        except ValueError:
            continue
        found.append((sum(told[name][value] for name, value in choice), choice))
    return sorted(found, key=lambda row: row[0])


class Judge(unittest.TestCase):
    def test_kinds_that_the_machine_lacks(self):
        self.assertTrue(judge(Route(repeats=False), "doubled", {"inrow": 3, "late": None, "nothing": 2}))
        self.assertEqual(judge(Link(), "doubled", {"inrow": 3}), judge(Link(), "doubled", {}))

    def test_is_that_of_the_machine(self):
        for part, promise, allowances in ((Route(repeats=False), "lost", {"call": 1}), (Link(check="next"), "doubled", {"late": 2})):
            case = case_of(part)
            self.assertEqual(judge(part, promise, allowances), judge_never(case.machine, case.bad(promise), allowances))

    def test_errors(self):
        for part, promises in ((Route(repeats=False), ("disorder", "", None, 1, ["lost"])), (Link(), ("untold", "", None))):
            for promise in promises:
                with self.assertRaises(NoPromise, msg=promise):
                    judge(part, promise, "wrong, too")
            for allowances in (None, [], "call", {"call": -1}, {"call": True}, {"Call": 1}, {1: 1}, {"": 0}, {"call": "any"}):
                with self.assertRaises(BadAllowances, msg=allowances):
                    judge(part, "lost", allowances)


class Rows(unittest.TestCase):
    def test_no_settings_told(self):
        self.assertEqual(Choices(True, {}).rows(), [(0, ())])
        self.assertEqual(Choices(False, {}).rows(), [(0, ())])

    def test_same_prices(self):
        told = {"room": {2: 1, 1: 1}, "check": {"window": 0, "none": 1, "next": 0}}
        expected = [(1, 2, "window"), (1, 2, "next"), (1, 1, "window"), (1, 1, "next"), (2, 2, "none"), (2, 1, "none")]
        rows = [(price, (("room", room), ("check", check))) for price, room, check in expected]
        self.assertEqual(Choices(True, told).rows(), rows)

    def test_values_that_no_setting_can_have(self):
        told = {"need": {3: 0, 1: 5, 2: 1, True: 7, -1: 0, "1": 0}, "copies": {3: 2, 2: 1, 4: 0, None: 0, (1, 2): 0}}
        rows = Choices(False, told).rows()
        # True is equal to 1 as a key, and so has the price of it.
        expected = [(2, (("need", 3), ("copies", 3))), (2, (("need", 2), ("copies", 2))), (3, (("need", 2), ("copies", 3))),
                    (8, (("need", 1), ("copies", 2))), (9, (("need", 1), ("copies", 3)))]
        self.assertEqual(rows, expected)
        self.assertEqual(Choices(False, {"need": {2: 0, 3: 1}}).rows(), [])
        self.assertEqual(Choices(True, {"room": {True: 0}}).rows(), [])
        self.assertEqual(Choices(True, {"keeps": {1: 0, 0: 1}}).rows(), [])

    def test_many_values(self):
        told = {name: {value: 1 for value in list(range(2, 200)) + ["any", True, None, "before"]} for name in ROUTE_PRICES}
        self.assertEqual([row[0] for row in Choices(False, {**told, "room": {1: 0, 2: 1}}).rows()], [3, 3, 4, 4])

    def test_at_random(self):
        rng = rng_of(15)
        values = {"repeats": (True, False, 0), "room": (1, 2, 3), "need": (0, 1, 2, 3), "copies": (1, 2, 3, 4), "window": (0, None, "x")}
        for _ in range(60):
            names = rng.sample(list(values), rng.randint(0, 4))
            told = {name: {value: rng.randint(0, 3) for value in rng.sample(values[name], rng.randint(1, 3))} for name in names}
            told.get("repeats", {}).pop(0, None)
            if all(told.values()):
                self.assertEqual(Choices(False, told).rows(), all_rows(False, told), told)

    def test_given_is_copied(self):
        told = copy.deepcopy(LINK_PRICES)
        choices = Choices(True, told)
        told["check"]["none"] = 9
        told["room"] = {1: 0}
        choices.rows().clear()
        self.assertEqual(choices.rows(), all_rows(True, LINK_PRICES))

    def test_bad_prices(self):
        for is_link, told in ((1, {}), (None, {}), ("link", {}), (0, {}), (True, None), (True, []), (True, {"copies": {1: 0}}),
                              (False, {"check": {"none": 0}}), (True, {"check": {}}), (True, {"check": ["none"]}),
                              (True, {"check": {"none": -1}}), (True, {"check": {"none": True}}), (True, {"check": {"none": None}}),
                              (True, {1: {"none": 0}}), (True, {"": {"none": 0}}), (True, {"check": {"none": 1.0}}),
                              (True, {"check": {"none": 0}, "room": {1: 0, 2: "0"}})):
            with self.assertRaises(BadPrices, msg=(is_link, told)):
                Choices(is_link, told)


class CheapestTest(unittest.TestCase):
    def check(self, is_link, told, promises, allowances):
        """Compare with a trial of all rows."""
        choices = Choices(is_link, told)
        kept = {}
        for price, choice in all_rows(is_link, told):
            part = (Link if is_link else Route)(**dict(choice))
            if all(is_kept(part, promise, allowances) for promise in promises):
                kept.setdefault(price, []).append(dict(choice))
        if not kept:
            with self.assertRaises(NoSettings):
                cheapest(choices, promises, allowances)
            return None
        found = cheapest(choices, promises, allowances)
        self.assertEqual(found.price, min(kept))
        self.assertIn(found.chosen, kept[found.price])
        cheaper = [choice for price, choice in all_rows(is_link, told) if price < found.price]
        self.assertEqual(sorted(map(repr, cheaper)), sorted(repr(row[0]) for row in found.against))
        for choice, promise, run in found.against:
            self.assertEqual(len(judge((Link if is_link else Route)(**dict(choice)), promise, allowances).run), len(run))
        self.assertTrue(found.shows(choices, promises, allowances))
        return found

    def test_example(self):
        found = cheapest(Choices(True, LINK_PRICES), ["doubled"], {"inrow": 1})
        told = [found.chosen, found.price, sorted([row[0] for row in found.against])]
        self.assertEqual(told, [{"check": "next"}, 2, [(("check", "none"),), (("check", "window"),)]])

    def test_all_rows(self):
        link = {"check": {"none": 0, "window": 1, "next": 2}, "keeps": {True: 1, False: 0}, "repeats": {True: 0, False: 1}}
        for promises in ([], ["doubled"], ["lost"], ["doubled", "lost"], ("disorder",)):
            for allowances in ({}, {"inrow": 1, "late": 1}, {"taker": 1}, {"call": None}):
                self.check(True, {**link, "room": {1: 0}}, promises, allowances)
                self.check(False, ROUTE_PRICES, [name for name in promises if name != "disorder"], {**allowances, "reader": 1})

    def test_same_prices(self):
        found = self.check(True, {"check": {"next": 1, "window": 1, "none": 1}}, ["doubled"], {})
        self.assertEqual(found.against, [])

    def test_none_keeps(self):
        self.assertIsNone(self.check(True, {"check": {"none": 0}}, ["doubled"], {}))
        self.assertIsNone(self.check(False, {"need": {2: 0}}, [], {}))

    def test_spoilt(self):
        told = {"check": {"none": 0, "window": 1, "next": 2}, "room": {2: 0, 1: 3}}
        choices, promises, allowances = Choices(True, told), ["doubled"], {"inrow": 1}
        good = cheapest(choices, promises, allowances)
        self.assertEqual(len(good.against), 2)
        first, second = good.against
        run = first[2]
        spoilt = [
            ({"check": "next"}, 2, good.against), ({"check": "next", "room": 1}, 2, good.against),
            ({"check": "next", "room": 2}, 3, good.against), ({"check": "next", "room": 2}, 2, good.against[:1]),
            ({"check": "next", "room": 2}, 2, [first, first]), ({"check": "next", "room": 2}, 2, [first, second, first]),
            ({"check": "next", "room": 2}, 2, [first, (second[0][::-1], second[1], second[2])]),
            ({"check": "next", "room": 2}, 2, [second, (first[0], "lost", run)]),
            ({"check": "next", "room": 2}, 2, [second, (first[0], "disorder", run)]),
            ({"check": "next", "room": 2}, 2, [second, (first[0], "doubled", run[:-1])]),
            ({"check": "next", "room": 2}, 2, [second, (first[0], "doubled", [])]),
            ({"check": "next", "room": 2}, 2, [second, (first[0], "doubled", run + run[-1:])]),
            ({"check": "next", "room": 2}, 2, [second, (first[0], "doubled", second[2])]),
            ({"check": "window", "room": 2}, 1, [first]), ({"check": "none", "room": 2}, 0, []), ({}, 2, good.against),
            ({"check": "next", "room": 2, "keeps": True}, 2, good.against), ({"check": "next", "keeps": True}, 2, good.against),
            ({"check": "next", "room": 2}, 2, [first, second, ((("check", "next"), ("room", 1)), "doubled", run)]),
            ({"check": "next", "room": 2}, 2, [first, second, ((("check", "next"), ("room", 2)), "doubled", run)]),
        ]
        self.assertTrue(good.shows(choices, promises, allowances))
        self.assertTrue(Cheapest(good.chosen, 2, [second, first]).shows(choices, promises, allowances))
        self.assertTrue(Cheapest({"room": 2, "check": "next"}, 2, tuple(good.against)).shows(choices, promises, allowances))
        for chosen, price, against in spoilt:
            self.assertFalse(Cheapest(chosen, price, against).shows(choices, promises, allowances), (chosen, price, against))
        self.assertFalse(good.shows(choices, promises, {}))
        self.assertFalse(good.shows(choices, ["lost"], allowances))
        self.assertFalse(good.shows(choices, [], allowances))

    def test_a_longer_run_does_not_show(self):
        choices = Choices(True, LINK_PRICES)
        good = cheapest(choices, ["doubled"], {"inrow": 1})
        case = LinkCase(Link(check="none"))
        place = [row[0] for row in good.against].index((("check", "none"),))
        # From the end of the run one more step within the allowances leads to a bad state again.
        end = good.against[place][2][-1][3]
        more = [step for step in case.machine.behind(end) if not step[1] and step[3] in case.bad("doubled")][0]
        good.against[place] = (good.against[place][0], "doubled", good.against[place][2] + [more])
        self.assertFalse(good.shows(choices, ["doubled"], {"inrow": 1}))

    def test_true_is_not_one(self):
        choices = Choices(True, {"keeps": {True: 0}, "room": {1: 0}})
        self.assertTrue(Cheapest({"keeps": True, "room": 1}, 0, []).shows(choices, [], {}))
        self.assertFalse(Cheapest({"keeps": 1, "room": 1}, 0, []).shows(choices, [], {}))
        self.assertFalse(Cheapest({"keeps": True, "room": True}, 0, []).shows(choices, [], {}))
        choices = Choices(True, {"repeats": {True: 0, False: 1}})
        good = cheapest(choices, ["doubled"], {})
        self.assertEqual(good.against[0][0], (("repeats", True),))
        good.against[0] = ((("repeats", 1),), *good.against[0][1:])
        self.assertFalse(good.shows(choices, ["doubled"], {}))

    def test_attributes_are_new(self):
        run = [(0, "", "", 1)]
        chosen, against = {"room": 1}, [((("room", 2),), "lost", run)]
        made = Cheapest(chosen, 1, against)
        run.clear()
        chosen.clear()
        against.clear()
        self.assertEqual((made.chosen, made.against), ({"room": 1}, [((("room", 2),), "lost", [(0, "", "", 1)])]))

    def test_errors_in_order(self):
        values = {number: 0 for number in range(26)}
        large = Choices(True, {"check": {"none": 0}, "room": values, "window": {1: 0, 2: 0, 3: 0, 4: 0}})
        good = Choices(True, {"check": {"next": 0}, "room": {number: 0 for number in range(25)}, "window": {1: 0, 2: 0, 3: 0, 4: 0}})
        made = Cheapest({}, 0, [])
        for call in (cheapest, made.shows):
            for wrong in (None, {}, LINK_PRICES, [], Choices):
                with self.assertRaises(BadPrices):
                    call(wrong, ["no"], {"No": 1})
            with self.assertRaises(TooLarge):
                call(large, ["no"], {"No": 1})
            for promises in (["no"], ["doubled", "untold"], [None], None, "doubled", 3, [["lost"]]):
                with self.assertRaises(NoPromise, msg=promises):
                    call(good, promises, {"No": 1})
            for allowances in ({"No": 1}, None, [], {"call": -1}, {"call": True}):
                with self.assertRaises(BadAllowances, msg=allowances):
                    call(good, ["doubled"], allowances)
            with self.assertRaises(NoPromise):
                call(Choices(False, {}), ["disorder"], {})
        self.assertEqual(cheapest(good, ["doubled"], {}).price, 0)
        row = {number: 0 for number in range(101)}
        with self.assertRaises(TooLarge):
            cheapest(Choices(True, {"room": row}), [], {})
        row.pop(0)
        self.assertEqual(cheapest(Choices(True, {"room": row}), [], {}).chosen, {"room": 1})
        with self.assertRaises(NoSettings):
            cheapest(Choices(True, {"check": {"none": 0}}), ["doubled"], {})


class Largest(unittest.TestCase):
    def test_largest_settings(self):
        begin = time.perf_counter()
        route = Route(room=2, window=1, place="before", outlet=1)
        case = Case(route)
        self.assertEqual(len(case.machine), 2970)
        for promise in ("doubled", "lost", "untold"):
            for limit in (0, 1, 2, None):
                allowances = {kind: limit for kind in case.machine.kinds}
                self.assertTrue(judge(route, promise, allowances).shows(case.machine, case.bad(promise), allowances))
        link = LinkCase(Link(ahead=2, repeats=False, room=1, check="window", window=2))
        self.assertEqual(len(link.machine), 2953)
        self.assertLess(time.perf_counter() - begin, 60)

    def test_many_choices(self):
        begin = time.perf_counter()
        told = {"place": {"before": 0, "after": 1, "with": 2}, "window": {0: 0, 1: 1, None: 9}, "outlet": {0: 0, None: 9},
                "reads": {"any": 0, "safe": 1}, "repeats": {False: 0, True: 2}}
        choices, promises = Choices(False, told), ["doubled", "lost"]
        allowances = {kind: None for kind in ("reader", "call", "inrow", "outrow")}
        found = cheapest(choices, promises, allowances)
        self.assertTrue(found.shows(choices, promises, allowances))
        self.assertGreater(len(found.against), 20)
        self.assertLess(time.perf_counter() - begin, 60)
