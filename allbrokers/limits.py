"""Allowances as an object that can be joined, compared and written out."""

from allbrokers.checks import are_allowances, is_number, is_word
from allbrokers.errors import BadAllowances


class Limits:
    """Limits for kinds of falls: integers from 0, or None for any number."""

    # No kind has a name with a line in it, so that each one but told can be given by name.
    def __init__(self_, told=None, **more):
        given = {} if told is None else told
        if not are_allowances(given) or not are_allowances(more):
            raise BadAllowances("not a dict from words to integers from 0, or None")
        joined = {**given, **more}
        self_._limits = {kind: joined[kind] for kind in sorted(joined) if joined[kind] != 0}

    @classmethod
    def any_of(cls, *kinds):
        """The limits that let some kinds come any number of times."""
        if not all([is_word(kind) for kind in kinds]):
            raise BadAllowances("a kind is no word")
        return cls({kind: None for kind in kinds})

    def told(self):
        """The dict of the kinds with another limit than 0, ascending."""
        return {kind: self._limits[kind] for kind in self._limits}

    def __getitem__(self, at):
        return self._limits.get(at, 0)

    def __contains__(self, x):
        return x in self._limits

    def __len__(self):
        return len(self._limits)

    def __iter__(self):
        return iter(self._limits)

    def __bool__(self):
        return bool(self._limits)

    def __eq__(self, other):
        return isinstance(other, Limits) and self._limits == other._limits

    def __or__(self, other):
        kinds = [*self._limits, *other._limits]
        return Limits({kind: greater(self[kind], other[kind]) for kind in kinds})

    def __and__(self, other):
        return Limits({kind: lesser(self[kind], other[kind]) for kind in self._limits})

    def __add__(self, other):
        kinds = [*self._limits, *other._limits]
        return Limits({kind: total(self[kind], other[kind]) for kind in kinds})

    def __sub__(self, other):
        return Limits({kind: self._limits[kind] for kind in self._limits if kind != other})

    def __mul__(self, other):
        if not is_number(other):
            raise BadAllowances("not an integer from 0")
        return Limits({kind: product_of(self._limits[kind], other) for kind in self._limits})

    def is_below(self, other):
        """Whether no limit is greater than that of another one."""
        return all([is_at_most(self[kind], other[kind]) for kind in self._limits])

    def text(self, *, is_wide=False):
        """The kinds and their limits, ascending, with commas between."""
        parts = []
        for kind, limit in self._limits.items():
            number = "any" if limit is None else str(limit)
            parts.append(f"{kind:<8} {number:>6}" if is_wide else f"{kind} {number}")
        return ", ".join(parts)


def is_at_most(one, other):
    """Whether a limit is not greater than another one."""
    if other is None:
        return True
    return one is not None and one <= other


def greater(one, other):
    """The greater one of two limits."""
    return other if is_at_most(one, other) else one


def lesser(one, other):
    """The lesser one of two limits."""
    return one if is_at_most(one, other) else other


def total(one, other):
    """The sum of two limits."""
    if one is None or other is None:
        return None
    return one + other


def product_of(limit, many):
    """A limit so many times; any number of times stays so, unless many is 0."""
    if many == 0:
        return 0
    return None if limit is None else limit * many
