"""Links: two rows that go over a way on which calls are lost, doubled and late, as a machine."""

from allbrokers.building import built
from allbrokers.promises import dead_states
from allbrokers.settings import check_promise, check_settings


class Link:
    """The settings of a link."""

    def __init__(self, *, ahead=1, repeats=True, room=2, check="none", window=1, keeps=True):
        self.ahead = ahead
        self.repeats = repeats
        self.room = room
        self.check = check
        self.window = window
        self.keeps = keeps
        check_settings(True, self.settings())

    def __eq__(self, other):
        return isinstance(other, Link) and self.settings() == other.settings()

    def settings(self):
        """The dict of all settings."""
        return {
            "ahead": self.ahead, "repeats": self.repeats, "room": self.room, "check": self.check, "window": self.window,
            "keeps": self.keeps,
        }


class LinkCase:
    """The machine of a link, and what its states are."""

    def __init__(self, link):
        first = ((0, 0), (), (0, 0), (0, 0), (), 0)
        self.machine, self.states = built(first, link_moves, link)

    def bad(self, promise):
        """The ascending tuple of the states in which a promise is broken."""
        check_promise(True, promise)
        if promise == "doubled":
            return tuple([number for number, state in enumerate(self.states) if 2 in state[3]])
        if promise == "disorder":
            return tuple([number for number, state in enumerate(self.states) if state[5] == 1])
        goals = tuple([number for number, state in enumerate(self.states) if 0 not in state[3]])
        return dead_states(self.machine, goals)


def link_moves(link, state):
    """The triples of the kind, the word and the goal of the steps from a state."""
    moves = sendings(link, state) + takings(link, state) + hearings(state)
    return moves + call_falls(link, state) + answer_falls(state) + status_falls(link, state) + near_falls(link, state)


def changed(pair, row, number):
    """A pair of numbers with another one for a row."""
    return (number, pair[1]) if row == 0 else (pair[0], number)


def sendings(link, state):
    """The first row that is not sent is sent, or one that is sent once more."""
    status, calls, answers, kept, near, disorder = state
    if len(calls) >= link.room:
        return []
    ways = []
    if 0 in status and status.count(1) < link.ahead:
        row = status.index(0)
        ways.append((changed(status, row, 1), calls + (row,)))
    if link.repeats:
        ways.extend([(status, calls + (row,)) for row in range(2) if status[row] == 1])
    return [("", "", (now, sent, answers, kept, near, disorder)) for now, sent in ways]


def takings(link, state):
    """The taker takes the first call, answers it, and keeps the row, if it is new."""
    status, calls, answers, kept, near, disorder = state
    if not calls:
        return []
    row, rest = calls[0], calls[1:]
    is_known = knows(link, near, row)
    is_new = not is_known and (link.check != "next" or len(near) == row)
    if is_known or is_new:
        answers = changed(answers, row, 1)
    if not is_new:
        return [("", "", (status, rest, answers, kept, near, disorder))]
    if row == 0 and kept[1] > 0:
        disorder = 1
    kept = changed(kept, row, min(2, kept[row] + 1))
    return [("", "kept", (status, rest, answers, kept, remembered(link, near + (row,)), disorder))]


def knows(link, near, row):
    """Whether a row is known to the taker."""
    if link.check == "window":
        return row in near
    return link.check == "next" and len(near) > 0 and near[-1] >= row


def remembered(link, rows):
    """Those of some rows, the last one last, that the taker remembers."""
    if link.check == "none":
        return ()
    return rows if link.check == "next" else rows[-link.window:]


def hearings(state):
    """The writer hears an answer for a row."""
    status, calls, answers, kept, near, disorder = state
    moves = []
    for row in range(2):
        if answers[row] == 1:
            seen = "told" if status[row] < 2 else ""
            goal = (changed(status, row, 2), calls, changed(answers, row, 0), kept, near, disorder)
            moves.append(("", seen, goal))
    return moves


def call_falls(link, state):
    """Calls are lost, doubled, or late."""
    status, calls, answers, kept, near, disorder = state
    found = [("call", calls[:place] + calls[place + 1:]) for place in range(len(calls))]
    if len(calls) < link.room:
        found.extend([("double", calls + (row,)) for row in calls])
    if len(calls) == 2:
        found.append(("late", calls[::-1]))
    return [(kind, "", (status, left, answers, kept, near, disorder)) for kind, left in found]


def answer_falls(state):
    """One of the answers is lost."""
    status, calls, answers, kept, near, disorder = state
    lost = [changed(answers, row, 0) for row in range(2) if answers[row] == 1]
    return [("answer", "", (status, calls, left, kept, near, disorder)) for left in lost]


def status_falls(link, state):
    """The writer forgets what it sent, or the taker what it took."""
    status, calls, answers, kept, near, disorder = state
    moves = []
    if 1 in status:
        forgotten = tuple([0 if number == 1 else number for number in status])
        moves.append(("sender", "", (forgotten, calls, answers, kept, near, disorder)))
    if near and not link.keeps:
        moves.append(("taker", "", (status, calls, answers, kept, (), disorder)))
    return moves


def near_falls(link, state):
    """Another row, 2, comes to the taker."""
    status, calls, answers, kept, near, disorder = state
    if link.check != "window" or not near:
        return []
    return [("inrow", "", (status, calls, answers, kept, remembered(link, near + (2,)), disorder))]
