"""The errors that the package raises, one class for each kind of failure."""


class BrokerError(ValueError):
    """Any error of this package."""


class BadMachine(BrokerError):
    """Not a machine; place is the position of the first step that is none, or None."""

    def __init__(self, place):
        super().__init__(f"not a machine, place {place}")
        self.place = place


class BadStates(BrokerError):
    """Not states of the machine, or not an ascending tuple of them."""


class BadRun(BrokerError):
    """Not a run; place is the position of the first step that does not go on, or None."""

    def __init__(self, place):
        super().__init__(f"not a run, place {place}")
        self.place = place


class BadAllowances(BrokerError):
    """Not allowances, or not for the kinds of the machine."""


class BadKinds(BrokerError):
    """Not an ascending tuple of words, or not one of the kinds in question."""


class BadFormula(BrokerError):
    """Not a formula."""


class BadSettings(BrokerError):
    """Not settings; name is that of the first one that is not as told."""

    def __init__(self, name):
        super().__init__(f"not a setting: {name}")
        self.name = name


class NoPromise(BrokerError):
    """Not the name of a promise."""


class TooLarge(BrokerError):
    """More states, kinds or choices than are gone through."""


class BadPrices(BrokerError):
    """Not choices with prices."""


class NoSettings(BrokerError):
    """No choice keeps the promises."""


class NotSeen(BrokerError):
    """No run shows these words."""


class BadText(BrokerError):
    """Not a text of the form; line and column are those of the first word that does not fit."""

    def __init__(self, line, column):
        super().__init__(f"line {line}, column {column} does not fit")
        self.line = line
        self.column = column


class BadName(BrokerError):
    """Not a name for a part of a book."""

    def __init__(self, name):
        super().__init__(f"not a name: {name}")
        self.name = name


class NoPart(BrokerError):
    """No part of the book has this name."""

    def __init__(self, name):
        super().__init__(f"no part: {name}")
        self.name = name


class NothingDone(BrokerError):
    """There is no change that could be undone."""
