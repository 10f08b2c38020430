"""Choices of settings with prices, and the cheapest one that keeps promises."""

from allbrokers.checks import are_allowances, is_number
from allbrokers.errors import BadAllowances, BadPrices, NoPromise, NoSettings, TooLarge
from allbrokers.falls import holds_for
from allbrokers.links import Link, LinkCase
from allbrokers.promises import Broken, judge_never
from allbrokers.routes import Case, Route
from allbrokers.settings import bad_setting, check_promise, is_among, values_of

MOST_CHOICES = 100


def judge(part, promise, allowances):
    """Kept or Broken: whether a route or a link keeps a promise under allowances."""
    check_promise(isinstance(part, Link), promise)
    check_limits(allowances)
    return judged(case_of(part), promise, allowances)


def check_limits(allowances):
    """Refuse what is no dict of allowances, for whatever kinds."""
    if not are_allowances(allowances):
        raise BadAllowances("not a dict from words to integers from 0, or None")


def case_of(part):
    """The case of a route or of a link."""
    return LinkCase(part) if isinstance(part, Link) else Case(part)


def judged(case, promise, allowances):
    """Kept or Broken, for a promise of a case."""
    return judge_never(case.machine, case.bad(promise), own_limits(case, allowances))


def own_limits(case, allowances):
    """Those of some allowances that are for kinds of the machine of a case."""
    return {kind: allowances[kind] for kind in allowances if kind in case.machine.kinds}


class Choices:
    """Values of settings, of links or of routes, with prices."""

    def __init__(self, is_link, told):
        if not isinstance(is_link, bool) or not are_prices(is_link, told):
            raise BadPrices("not values of settings with prices")
        self.is_link = is_link
        self._prices = {name: {value: told[name][value] for value in told[name]} for name in told}

    def many_choices(self):
        """The number of all choices, also of those that are no settings."""
        many = 1
        for prices in self._prices.values():
            many = many * len(prices)
        return many

    def rows(self):
        """The list of the pairs of a price and a choice, of all choices that are settings, cheaper ones first."""
        possible = values_of(self.is_link)
        choices = [()]
        # What no setting can have is left out at once: there may be any number of such values.
        for name, prices in self._prices.items():
            values = [value for value in prices if is_among(possible[name], value)]
            choices = [choice + ((name, value),) for choice in choices for value in values]
        fitting = [choice for choice in choices if self._is_part(choice)]
        order = sorted([(self._price(choice), place) for place, choice in enumerate(fitting)])
        return [(price, fitting[place]) for price, place in order]

    def part_of(self, choice):
        """The link, or the route, of a choice."""
        told = dict(choice)
        return Link(**told) if self.is_link else Route(**told)

    def _is_part(self, choice):
        """Whether values that settings can have can also be had together."""
        others = Link().settings() if self.is_link else Route().settings()
        told = dict(choice)
        return bad_setting(self.is_link, {**others, **told}) is None

    def _price(self, choice):
        """The sum of the prices of the values of a choice."""
        return sum([self._prices[name][value] for name, value in choice])


def are_prices(is_link, told):
    """Whether a value is a dict from names of settings to dicts, not empty, from values to prices."""
    if not isinstance(told, dict):
        return False
    names = list(values_of(is_link))
    return all([is_among(names, name) and is_price_list(told[name]) for name in told])


def is_price_list(prices):
    """Whether a value is a dict, not empty, from values to integers from 0."""
    return isinstance(prices, dict) and len(prices) > 0 and all([is_number(price) for price in prices.values()])


class Cheapest:
    """The cheapest choice that keeps promises, and for each cheaper one a run by which it breaks one of them."""

    def __init__(self, chosen, price, against):
        self.chosen = dict(chosen)
        self.price = price
        self.against = [(choice, promise, list(run)) for choice, promise, run in against]

    def __eq__(self, other):
        return (isinstance(other, Cheapest) and self.chosen == other.chosen and self.price == other.price
                and self.against == other.against)

    def shows(self, choices, promises, allowances):
        """Whether the choice keeps the promises, at its price, and each cheaper one breaks one of them."""
        check_asked(choices, promises, allowances)
        rows = choices.rows()
        found = [choice for price, choice in rows if price == self.price and is_dict_of(self.chosen, choice)]
        if not found:
            return False
        cheaper = [choice for price, choice in rows if price < self.price]
        if not self._is_against(cheaper):
            return False
        for choice, promise, run in self.against:
            if promise not in promises or not is_broken(choices.part_of(choice), promise, run, allowances):
                return False
        return keeps_all(choices.part_of(found[0]), promises, allowances)

    def _is_against(self, cheaper):
        """Whether there is one triple for each of some choices."""
        if len(self.against) != len(cheaper):
            return False
        told = [choice for choice, _, _ in self.against]
        return all([is_told_once(told, choice) for choice in cheaper])


def cheapest(choices, promises, allowances):
    """The cheapest choice that keeps some promises under allowances, as evidence."""
    check_asked(choices, promises, allowances)
    broken = []
    for price, choice in choices.rows():
        found = first_broken(choices.part_of(choice), promises, allowances)
        if found is None:
            return Cheapest(dict(choice), price, [row[1:] for row in broken if row[0] < price])
        broken.append((price, choice, found[0], found[1]))
    raise NoSettings("no choice keeps the promises")


def check_asked(choices, promises, allowances):
    """Refuse what are no choices, or too many, no promises of theirs, or no allowances."""
    if not isinstance(choices, Choices):
        raise BadPrices("not choices")
    if choices.many_choices() > MOST_CHOICES:
        raise TooLarge("more than 100 choices")
    if not isinstance(promises, (list, tuple)):
        raise NoPromise("not a list of names of promises")
    for promise in promises:
        check_promise(choices.is_link, promise)
    check_limits(allowances)


def first_broken(part, promises, allowances):
    """The pair of the first promise that a part does not keep, and a run by which; None if it keeps all."""
    case = case_of(part)
    for promise in promises:
        found = judged(case, promise, allowances)
        if not found:
            return promise, found.run
    return None


def keeps_all(part, promises, allowances):
    """Whether a part keeps all of some promises."""
    case = case_of(part)
    limits = own_limits(case, allowances)
    return all([holds_for(case.machine, case.bad(promise), limits) for promise in promises])


def is_broken(part, promise, run, allowances):
    """Whether a part breaks a promise by a run, none shorter."""
    case = case_of(part)
    return Broken(run).shows(case.machine, case.bad(promise), own_limits(case, allowances))


def is_dict_of(told, choice):
    """Whether a dict has just the names and values of a choice; True is not 1 here."""
    if len(told) != len(choice):
        return False
    return all([name in told and is_among([value], told[name]) for name, value in choice])


def is_told_once(told, choice):
    """Whether just one of some choices is a choice, with its names in the same order."""
    return len([row for row in told if row == choice and is_dict_of(dict(row), choice)]) == 1
