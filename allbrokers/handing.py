"""Handing lanes over one by one, so that no reader ever has more than its cap."""

from allbrokers.deals import are_readers_told, check_deal, is_count, loads_of
from allbrokers.readererrors import BadBounds, BadDeal


class Order:
    """Moves in an order in which they can be made, as few as can be, and the parts that need one more each."""

    def __init__(self, moves, parts):
        self.moves = list(moves)
        self.parts = [list(part) for part in parts]

    def __eq__(self, other):
        return isinstance(other, Order) and self.moves == other.moves and self.parts == other.parts

    def __bool__(self):
        return True

    def shows(self, deal, goal, caps):
        """Whether the moves lead to the goal within the caps, and are as few as the stuck parts let them be."""
        check_asked(deal, goal, caps)
        stuck = stuck_parts(deal, goal, caps)
        if sorted([sorted(part) for part in self.parts]) != sorted(stuck):
            return False
        if len(self.moves) != len(unlike_lanes(deal, goal)) + len(stuck):
            return False
        return moved_in_order(deal, caps, self.moves) == goal


class Barred:
    """No lane can be moved: all readers have as many as their caps."""

    def __init__(self, readers):
        self.readers = list(readers)

    def __eq__(self, other):
        return isinstance(other, Barred) and self.readers == other.readers

    def __bool__(self):
        return False

    def shows(self, deal, goal, caps):
        """Whether lanes are to be moved, and these are all readers of the caps, without room."""
        check_asked(deal, goal, caps)
        return self.readers == sorted(caps) and is_barred(deal, goal, caps)


def moved_in_order(deal, caps, moves):
    """The deal behind moves that are made one by one; None if one cannot be made."""
    now, rooms = dict(deal), rooms_of(deal, caps)
    for lane, reader, other in moves:
        if lane not in now or now[lane] != reader or rooms.get(other, 0) <= 0:
            return None
        now[lane] = other
        rooms[reader] += 1
        rooms[other] -= 1
    return now


def check_asked(deal, goal, caps):
    """Refuse what are no deals of the same lanes, and what are no caps for both."""
    check_deal(deal)
    check_deal(goal)
    if len(deal) != len(goal) or not all([lane in goal for lane in deal]):
        raise BadDeal("not deals of the same lanes")
    if not are_readers_told(caps) or not all([is_count(cap) for cap in caps.values()]):
        raise BadBounds("not a dict from 1 to 12 readers to numbers")
    for told in (deal, goal):
        for reader, many in loads_of(told).items():
            if many > caps.get(reader, -1):
                raise BadBounds("a reader without a cap, or beyond it")


def rooms_of(deal, caps):
    """The dict from the readers of caps to how many lanes more each can have."""
    loads = loads_of(deal)
    return {reader: cap - loads.get(reader, 0) for reader, cap in caps.items()}


def unlike_lanes(deal, goal):
    """The list of the lanes that have unlike readers in two deals."""
    return [lane for lane in deal if deal[lane] != goal[lane]]


def is_barred(deal, goal, caps):
    """Whether lanes have unlike readers, but no reader can have one more."""
    return len(unlike_lanes(deal, goal)) > 0 and sum(list(rooms_of(deal, caps).values())) == 0


def parts_of(deal, goal):
    """The list of the parts, each as the list of its lanes."""
    marks = {reader: reader for lane in unlike_lanes(deal, goal) for reader in (deal[lane], goal[lane])}
    for lane in unlike_lanes(deal, goal):
        old, new = marks[deal[lane]], marks[goal[lane]]
        marks = {reader: new if mark == old else mark for reader, mark in marks.items()}
    parts = {}
    for lane in unlike_lanes(deal, goal):
        parts.setdefault(marks[deal[lane]], []).append(lane)
    return list(parts.values())


def readers_of(deal, goal, part):
    """The ascending list of the readers of a part."""
    return sorted({reader for lane in part for reader in (deal[lane], goal[lane])})


def is_stuck(deal, goal, caps, part):
    """Whether all readers of a part have as many lanes as their caps, so that each gets as many as it gives."""
    rooms = rooms_of(deal, caps)
    # Within the caps of the goal no full reader can get more than it gives, so none gives more than it gets, either.
    return all([rooms[reader] == 0 for reader in readers_of(deal, goal, part)])


def stuck_parts(deal, goal, caps):
    """The list of the stuck parts, as ascending lists of readers."""
    return [readers_of(deal, goal, part) for part in parts_of(deal, goal) if is_stuck(deal, goal, caps, part)]


def hand_over(deal, goal, caps):
    """Order or Barred: as few moves as can be, one by one, from a deal to another one."""
    check_asked(deal, goal, caps)
    if is_barred(deal, goal, caps):
        return Barred(sorted(caps))
    detours, moves = [], []
    for part in parts_of(deal, goal):
        lanes = trail(deal, goal, caps, part)
        if is_stuck(deal, goal, caps, part):
            detours.extend(detour(deal, goal, caps, lanes))
        else:
            moves.extend([(lane, deal[lane], goal[lane]) for lane in lanes])
    # Stuck parts come first, while there is room where there was at the beginning; each leaves it as it was.
    return Order(detours + moves, stuck_parts(deal, goal, caps))


def detour(deal, goal, caps, lanes):
    """The moves of a stuck part, of which the last lane waits at a reader with room, while the others move."""
    rooms, last = rooms_of(deal, caps), lanes[-1]
    free = [reader for reader in rooms if rooms[reader] > 0][0]
    moves = [(lane, deal[lane], goal[lane]) for lane in lanes[:-1]]
    return [(last, deal[last], free)] + moves + [(last, free, goal[last])]


def trail(deal, goal, caps, part):
    """The lanes of a part in an order in which each goes to a reader that has room then.

    Room goes backward: a lane takes it at its goal, and leaves it at its reader. So the lanes are gone through by a
    trail backward over all of them. Readers that get more lanes than they give have room for that at first: there the
    trail begins again, each time that it has come to one that gives more. Nowhere, "", stands between both.
    """
    ways = {reader: [] for reader in readers_of(deal, goal, part) + [""]}
    for lane in part:
        ways[goal[lane]].append((lane, deal[lane]))
    gains = gains_of(deal, goal, part)
    for reader, gain in gains.items():
        ways[""].extend([("", reader)] * gain)
        ways[reader].extend([("", "")] * -gain)
    rooms = rooms_of(deal, caps)
    start = max([(rooms[reader], reader) for reader in gains])[1]
    return [lane for lane in circuit(ways, "" if ways[""] else start) if lane]


def gains_of(deal, goal, part):
    """How many lanes more than it gives each reader of a part gets."""
    gains = {reader: 0 for reader in readers_of(deal, goal, part)}
    for lane in part:
        gains[goal[lane]] += 1
        gains[deal[lane]] -= 1
    return gains


def circuit(ways, start):
    """The lanes of all ways in the order of a way round over each of them once, from a node back to it.

    ways has for each node pairs of a lane and the node behind it; as many ways lead to each node as from it.
    """
    left = {node: list(pairs) for node, pairs in ways.items()}
    walk, found = [("", start)], []
    while walk:
        lane, node = walk[-1]
        if left[node]:
            walk.append(left[node].pop())
        else:
            found.append(lane)
            walk.pop()
    return found[::-1]
