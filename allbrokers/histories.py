"""Deals for bounds that change from tick to tick, with as few moves as can be in all."""

from allbrokers.deals import are_bounds, check_deal, check_room, is_within, loads_of, moves_between
from allbrokers.flows import Network
from allbrokers.readererrors import BadBounds

MOST_TICKS = 12
# All other nodes have tuples as names; no reader has an empty name, which stands for the pool of a tick.
SOURCE = "source"
SINK = "sink"


class History:
    """A deal for each tick, the number of all moves, and prices by which there cannot be fewer."""

    def __init__(self, deals, moves, prices):
        self.deals = [dict(deal) for deal in deals]
        self.moves = moves
        self.prices = list(prices)

    def __eq__(self, other):
        return (isinstance(other, History) and self.deals == other.deals and self.moves == other.moves
                and self.prices == other.prices)

    def shows(self, deal, history):
        """Whether the deals are within the bounds, with so many moves, and the prices bar fewer."""
        check_asked(deal, history)
        if len(self.deals) != len(history) or len(self.prices) != len(history):
            return False
        for told, bounds in zip(self.deals, history):
            if not has_lanes(told, deal) or not is_within(told, bounds):
                return False
        if sum([changes(one, other) for one, other in zip([deal] + self.deals, self.deals)]) != self.moves:
            return False
        return sum([least_cost(deal, history, self.prices, name) for name in names_of(deal, history)]) == self.moves


def check_asked(deal, history):
    """Refuse what is no deal, what are no bounds, and a tick at which no deal is within them."""
    check_deal(deal)
    if not isinstance(history, (list, tuple)) or not 1 <= len(history) <= MOST_TICKS:
        raise BadBounds("not a list of 1 to 12 bounds")
    if not all([are_bounds(bounds) for bounds in history]):
        raise BadBounds("not bounds")
    for tick, bounds in enumerate(history):
        check_room(bounds, len(deal), tick)


def has_lanes(told, deal):
    """Whether a dict has just the lanes of a deal."""
    return len(told) == len(deal) and all([lane in told for lane in deal])


def changes(one, other):
    """How many lanes change their reader from a deal to another one of the same lanes."""
    return len([lane for lane in one if one[lane] != other[lane]])


def names_of(deal, history):
    """The list of the readers of a deal and of all bounds of a history."""
    found = {reader: True for reader in deal.values()}
    for bounds in history:
        found.update({reader: True for reader in bounds})
    return list(found)


def least_cost(deal, history, prices, name):
    """The least cost of a reader: its moves away, less the prices of what it loses, over all rows of numbers."""
    costs = {loads_of(deal).get(name, 0): 0}
    for bounds, price in zip(history, prices):
        low, high = bounds.get(name, (0, 0))
        behind = {}
        for number in range(low, min(high, len(deal)) + 1):
            ways = [cost + max(0, many - number) - price * (many - number) for many, cost in costs.items()]
            behind[number] = min(ways)
        costs = behind
    return min(list(costs.values()))


def least_history(deal, history):
    """Deals within the bounds of all ticks, with as few moves as can be in all, as evidence."""
    check_asked(deal, history)
    network = Network()
    arcs = [tick_arcs(network, deal, history, tick) for tick in range(len(history))]
    for reader, many in loads_of(deal).items():
        network.new_arc(SOURCE, (reader, 0), many, 0)
    network.send_all(SOURCE, SINK)
    names, deals, moves = names_of(deal, history), [deal], 0
    for row in arcs:
        loads = {name: sum([network.flow_on(arc) for arc in row.get(name, ())]) for name in names}
        made = moves_between(deals[-1], loads)
        deals.append({**deals[-1], **{lane: goal for lane, _, goal in made}})
        moves += len(made)
    heights = network.heights()
    return History(deals[1:], moves, [heights[("", tick)] - heights[SINK] for tick in range(len(history))])


def tick_arcs(network, deal, history, tick):
    """Make the arcs of a tick, and return the dict from its readers to the arcs on which their lanes stay.

    A lane can leave its reader for the pool of the tick, which costs 1, and go from there to any reader. Those that a
    reader must have bring so much that no number of moves is worth more.
    """
    many, bounds = len(deal), history[tick]
    worth, found = many * len(history) + 1, {}
    for reader in (history[tick - 1] if tick > 0 else loads_of(deal)):
        network.new_arc((reader, tick), ("", tick), many, 1)
    for reader, (low, high) in bounds.items():
        network.new_arc(("", tick), (reader, tick), many, 0)
        goal = (reader, tick + 1) if tick + 1 < len(history) else SINK
        must = network.new_arc((reader, tick), goal, low, -worth)
        found[reader] = (must, network.new_arc((reader, tick), goal, min(high, many) - low, 0))
    return found
