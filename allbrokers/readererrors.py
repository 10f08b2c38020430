"""The errors of readers, rules, timetables and deals."""

from allbrokers.errors import BrokerError


class BadReader(BrokerError):
    """Not a reader, or not readers of the same letters."""


class BadLane(BrokerError):
    """Not a lane of these letters."""


class BadRule(BrokerError):
    """Not a rule, or not rules of the same letters."""


class BadQuestion(BrokerError):
    """Not letters, or not a question on them."""


class BadTimes(BrokerError):
    """Not a timetable."""


class BadDeal(BrokerError):
    """Not a deal, or not deals of the same lanes."""


class BadBounds(BrokerError):
    """Not bounds, or not caps."""


class NoDeal(BrokerError):
    """No deal is within the bounds of a tick."""

    def __init__(self, tick):
        super().__init__(f"no deal at tick {tick}")
        self.tick = tick
