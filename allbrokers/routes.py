"""Routes: one row from a writer over a lane with copies to a reader, as a machine."""

from allbrokers.building import built
from allbrokers.promises import dead_states
from allbrokers.settings import check_promise, check_settings


class Route:
    """The settings of a route."""

    def __init__(self, *, repeats=True, room=1, need=1, copies=1, choice="longest", window=0, reads="any",
                 place="after", outlet=0):
        self.repeats = repeats
        self.room = room
        self.need = need
        self.copies = copies
        self.choice = choice
        self.window = window
        self.reads = reads
        self.place = place
        self.outlet = outlet
        check_settings(False, self.settings())

    def __eq__(self, other):
        return isinstance(other, Route) and self.settings() == other.settings()

    def settings(self):
        """The dict of all settings."""
        return {
            "repeats": self.repeats, "room": self.room, "need": self.need, "copies": self.copies, "choice": self.choice,
            "window": self.window, "reads": self.reads, "place": self.place, "outlet": self.outlet,
        }


class Case:
    """The machine of a route, and what its states are."""

    def __init__(self, route):
        first = ((0, 0, 0, 0), (0,) * route.copies, -1, (0, 0), (0, -1))
        self.machine, self.states = built(first, route_moves, route)

    def out(self):
        """The ascending tuple of the states in which the row is out."""
        return tuple([number for number, state in enumerate(self.states) if state[4][0] > 0])

    def bad(self, promise):
        """The ascending tuple of the states in which a promise is broken."""
        check_promise(False, promise)
        if promise == "doubled":
            return tuple([number for number, state in enumerate(self.states) if state[4][0] == 2])
        dead = dead_states(self.machine, self.out())
        if promise == "lost":
            return dead
        return tuple([number for number in dead if self.states[number][0][0] == 2])


def route_moves(route, state):
    """The triples of the kind, the word and the goal of the steps from a state."""
    moves = sendings(route, state) + takings(route, state) + answers(route, state) + copyings(state)
    moves = moves + readings(route, state) + savings(route, state)
    moves = moves + writer_falls(route, state) + reader_falls(state) + copy_falls(state)
    return moves + leader_falls(route, state) + row_falls(route, state)


def sendings(route, state):
    """The writer sends the row."""
    (status, calls, asked, answer), logs, near, places, outs = state
    is_open = status == 0 or (status == 1 and route.repeats)
    if not is_open or calls >= route.room:
        return []
    status = 2 if route.need == 0 else 1
    return [("", "", ((status, calls + 1, asked, answer), logs, near, places, outs))]


def takings(route, state):
    """The lane takes a call."""
    (status, calls, asked, answer), logs, near, places, outs = state
    if calls == 0:
        return []
    if route.need > 0:
        asked = 1
    if near == -1:
        logs = (min(2, logs[0] + 1),) + logs[1:]
        near = -1 if route.window == 0 else 0
    return [("", "", ((status, calls - 1, asked, answer), logs, near, places, outs))]


def answers(route, state):
    """The lane answers, and the writer hears an answer."""
    (status, calls, asked, answer), logs, near, places, outs = state
    moves = []
    if asked == 1 and holders(logs, 0) >= route.need:
        moves.append(("", "", ((status, calls, 0, 1), logs, near, places, outs)))
    if answer == 1:
        seen = "told" if status < 2 else ""
        moves.append(("", seen, ((2, calls, asked, 0), logs, near, places, outs)))
    return moves


def holders(logs, number):
    """How many copies have the row more often than so."""
    return len([log for log in logs if log > number])


def with_copy(state, place, number):
    """A state in which the copy at a place, not the leader, has the row so often."""
    calls, logs, near, places, outs = state
    others = logs[1:place] + logs[place + 1:] + (number,)
    return (calls, (logs[0],) + tuple(sorted(others)), near, places, outs)


def copyings(state):
    """Another copy takes the row from the leader."""
    logs = state[1]
    behind = [place for place in range(1, len(logs)) if logs[place] < logs[0]]
    return [("", "", with_copy(state, place, logs[place] + 1)) for place in behind]


def readings(route, state):
    """The reader takes the row, and puts it out."""
    calls, logs, near, (saved, now), (out, far) = state
    if now >= logs[0] or (route.place == "before" and now >= saved):
        return []
    if route.reads == "safe" and holders(logs, now) < max(1, route.need):
        return []
    now += 1
    if route.place == "with":
        saved = now
    if far != -1:
        return [("", "", (calls, logs, near, (saved, now), (out, far)))]
    far = -1 if route.outlet == 0 else 0
    return [("", "out", (calls, logs, near, (saved, now), (min(2, out + 1), far)))]


def savings(route, state):
    """The reader saves its place."""
    calls, logs, near, (saved, now), outs = state
    if route.place == "after" and saved < now:
        return [("", "", (calls, logs, near, (now, now), outs))]
    if route.place == "before" and saved <= now < logs[0]:
        return [("", "", (calls, logs, near, (now + 1, now), outs))]
    return []


def writer_falls(route, state):
    """Calls are lost or doubled, answers are lost, and the writer forgets."""
    (status, calls, asked, answer), logs, near, places, outs = state
    found = []
    if calls > 0:
        found.append(("call", (status, calls - 1, asked, answer)))
    if 0 < calls < route.room:
        found.append(("double", (status, calls + 1, asked, answer)))
    if answer == 1:
        found.append(("answer", (status, calls, asked, 0)))
    if status == 1:
        found.append(("sender", (0, calls, asked, answer)))
    return [(kind, "", (lane, logs, near, places, outs)) for kind, lane in found]


def reader_falls(state):
    """The reader falls back, or on, to its saved place."""
    calls, logs, near, (saved, now), outs = state
    if now == saved:
        return []
    return [("reader", "", (calls, logs, near, (saved, saved), outs))]


def copy_falls(state):
    """Another copy loses the row."""
    logs = state[1]
    return [("copy", "", with_copy(state, place, 0)) for place in range(1, len(logs)) if logs[place] > 0]


def leader_falls(route, state):
    """The leader falls, and another copy, if there is one, takes its place."""
    (status, calls, _, answer), logs, near, (saved, now), outs = state
    moves = []
    for number, others in heirs(route, logs):
        left = -1 if number == 0 else near
        places = (min(saved, number), min(now, number))
        moves.append(("leader", "", ((status, calls, 0, answer), (number,) + others, left, places, outs)))
    return moves


def heirs(route, logs):
    """Pairs of how often the new leader can have the row, and how often the others have it then."""
    if len(logs) == 1:
        return [(0, ())]
    found = []
    for place in range(1, len(logs)):
        number = logs[place]
        # The others ascend, so that the last one has the row most often.
        if route.choice == "any" or number == logs[-1]:
            rest = logs[1:place] + logs[place + 1:]
            found.append((number, tuple(sorted([0] + [min(log, number) for log in rest]))))
    return found


def row_falls(route, state):
    """Other rows come, so that the lane, or the outlet, forgets the row."""
    calls, logs, near, places, (out, far) = state
    moves = []
    if near != -1 and route.window is not None:
        left = -1 if near + 1 == route.window else near + 1
        moves.append(("inrow", "", (calls, logs, left, places, (out, far))))
    if far != -1 and route.outlet is not None:
        left = -1 if far + 1 == route.outlet else far + 1
        moves.append(("outrow", "", (calls, logs, near, places, (out, left))))
    return moves
