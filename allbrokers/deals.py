"""Deals of lanes to readers, and as few moves as can be until they are within bounds."""

from allbrokers.checks import is_number, is_word
from allbrokers.readererrors import BadBounds, BadDeal, NoDeal

MOST_LANES = 60
MOST_READERS = 12
WAYS = ("leaving", "coming")


class Moves:
    """As few moves as can be, and readers that must give, or get, so many lanes."""

    def __init__(self, moves, way, readers):
        self.moves = list(moves)
        self.way = way
        self.readers = list(readers)

    def __eq__(self, other):
        return (isinstance(other, Moves) and self.moves == other.moves and self.way == other.way
                and self.readers == other.readers)

    def shows(self, deal, bounds):
        """Whether the moves come to a deal within the bounds, and the readers show that there cannot be fewer."""
        check_asked(deal, bounds)
        behind = moved_once(deal, self.moves)
        if behind is None or not is_within(behind, bounds) or self.way not in WAYS:
            return False
        loads = all_loads(deal, bounds)
        if len(set(self.readers)) != len(self.readers) or not all([reader in loads for reader in self.readers]):
            return False
        needs = needs_of(loads, bounds, self.way)
        return sum([needs[reader] for reader in self.readers]) == len(self.moves)


def moved_once(deal, moves):
    """The deal behind moves of lanes from their readers to others; None if a move is none, or a lane is in two."""
    behind = dict(deal)
    for lane, reader, goal in moves:
        # A lane that was moved already has another reader in the deal behind than in the first one.
        if lane not in deal or reader != deal[lane] or behind[lane] != reader or goal == reader:
            return None
        behind[lane] = goal
    return behind


def least_moves(deal, bounds):
    """As few moves as can be until each reader has a number of lanes within its bounds, as evidence."""
    check_asked(deal, bounds)
    loads = all_loads(deal, bounds)
    moves = moves_between(deal, nearest_loads(loads, bounds, len(deal)))
    leaving, coming = [needs_of(loads, bounds, way) for way in WAYS]
    if sum(list(leaving.values())) == len(moves):
        return Moves(moves, "leaving", [reader for reader in leaving if leaving[reader] > 0])
    return Moves(moves, "coming", [reader for reader in coming if coming[reader] > 0])


def are_names(names):
    """Whether all of some values are words."""
    return all([is_word(name) for name in names])


def is_deal(deal):
    """Whether a value is a dict of at most 60 lanes to readers."""
    if not isinstance(deal, dict) or len(deal) > MOST_LANES:
        return False
    return are_names(list(deal)) and are_names(list(deal.values()))


def is_count(value):
    """Whether a value is a number of lanes, from 0 to 60."""
    return is_number(value) and value <= MOST_LANES


def are_readers_told(told):
    """Whether a value is a dict from 1 to 12 readers to something."""
    return isinstance(told, dict) and 1 <= len(told) <= MOST_READERS and are_names(list(told))


def are_bounds(bounds):
    """Whether a value is a dict from 1 to 12 readers to pairs of a least and a greatest number."""
    return are_readers_told(bounds) and all([is_range(pair) for pair in bounds.values()])


def is_range(pair):
    """Whether a value is a pair of a least and a greatest number of lanes."""
    if not isinstance(pair, tuple) or len(pair) != 2:
        return False
    return is_count(pair[0]) and is_count(pair[1]) and pair[0] <= pair[1]


def check_deal(deal):
    """Refuse what is no deal."""
    if not is_deal(deal):
        raise BadDeal("not a dict of at most 60 lanes to readers")


def check_asked(deal, bounds):
    """Refuse what are no deal and no bounds, and bounds within which there is no deal."""
    check_deal(deal)
    if not are_bounds(bounds):
        raise BadBounds("not a dict from 1 to 12 readers to pairs of numbers")
    check_room(bounds, len(deal), 0)


def check_room(bounds, many, tick):
    """Refuse bounds of a tick within which no deal of so many lanes is."""
    if not sum([pair[0] for pair in bounds.values()]) <= many <= sum([pair[1] for pair in bounds.values()]):
        raise NoDeal(tick)


def loads_of(deal):
    """The dict from the readers of a deal to their numbers of lanes."""
    loads = {}
    for reader in deal.values():
        loads[reader] = loads.get(reader, 0) + 1
    return loads


def all_loads(deal, bounds):
    """The dict from all readers of a deal, and of some readers more, to their numbers of lanes."""
    loads = loads_of(deal)
    return {**loads, **{reader: 0 for reader in bounds if reader not in loads}}


def is_within(deal, bounds):
    """Whether the numbers of lanes of all readers are within bounds; readers without bounds may have none."""
    for reader, many in all_loads(deal, bounds).items():
        low, high = bounds.get(reader, (0, 0))
        if not low <= many <= high:
            return False
    return True


def needs_of(loads, bounds, way):
    """How many lanes each reader has too many, or too few."""
    needs = {}
    for reader, many in loads.items():
        low, high = bounds.get(reader, (0, 0))
        needs[reader] = max(0, many - high) if way == "leaving" else max(0, low - many)
    return needs


def nearest_loads(loads, bounds, many):
    """Numbers of lanes within bounds, so many in all, that are as near to those that are told as can be."""
    ranges = {reader: bounds.get(reader, (0, 0)) for reader in loads}
    found = {reader: min(max(loads[reader], ranges[reader][0]), ranges[reader][1]) for reader in loads}
    left = many - sum(list(found.values()))
    for reader, (low, high) in ranges.items():
        # Who had too many is at the greatest number already, who had too few at the least one.
        more = min(left, high - found[reader]) if left > 0 else max(left, low - found[reader])
        found[reader] += more
        left -= more
    return found


def moves_between(deal, loads):
    """The moves of as few lanes as can be by which readers come to other numbers of lanes."""
    now = loads_of(deal)
    spare = {reader: now[reader] - loads[reader] for reader in now}
    wanting = []
    for reader, many in loads.items():
        wanting.extend([reader] * (many - now.get(reader, 0)))
    moves = []
    for lane, reader in deal.items():
        if spare[reader] > 0:
            spare[reader] -= 1
            moves.append((lane, reader, wanting[len(moves)]))
    return moves
