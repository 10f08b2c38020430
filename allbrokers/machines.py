"""Machines with states and steps, some of them falls, and their runs."""

from allbrokers.checks import check_state, is_number, is_word_or_empty
from allbrokers.errors import BadMachine, BadRun

MOST_STATES = 3000


class Machine:
    """A machine with states from 0 and steps (state, kind, seen, goal)."""

    def __init__(self, many, steps):
        if not is_number(many) or not 1 <= many <= MOST_STATES or not isinstance(steps, (list, tuple)):
            raise BadMachine(None)
        for place, step in enumerate(steps):
            if not is_step(many, step):
                raise BadMachine(place)
        self.many = many
        self.steps = tuple(sorted(set(steps)))
        self.kinds = sorted({step[1] for step in self.steps if step[1]})
        self.words = sorted({step[2] for step in self.steps if step[2]})
        self.by_state = [[] for _ in range(many)]
        for step in self.steps:
            self.by_state[step[0]].append(step)
        self._known = {step: True for step in self.steps}

    def __eq__(self, other):
        return isinstance(other, Machine) and self.many == other.many and self.steps == other.steps

    def __len__(self):
        return len(self.by_state)

    @classmethod
    def showing(cls, *words, kind=""):
        """The machine that shows some words, one behind the other, by steps of a kind."""
        return cls(len(words) + 1, [(place, kind, word, place + 1) for place, word in enumerate(words)])

    def behind(self, state):
        """The ascending list of the steps from a state."""
        check_state(self, state)
        return list(self.by_state[state])

    def has_step(self, step):
        """Whether a value is one of the steps."""
        return is_step(self.many, step) and step in self._known

    def reached(self):
        """The ascending list of the states in which runs end."""
        found, known, at = [0], {0: True}, 0
        while at < len(found):
            state = found[at]
            for step in self.by_state[state]:
                if step[3] not in known:
                    known[step[3]] = True
                    found.append(step[3])
            at += 1
        return sorted(found)

    def without(self, *kinds):
        """The machine without the falls of some kinds; steps of its own are no falls."""
        return Machine(self.many, [step for step in self.steps if not step[1] or step[1] not in kinds])


def is_step(many, step):
    """Whether a value is a step of a machine of so many states."""
    if not isinstance(step, tuple) or len(step) != 4:
        return False
    state, kind, seen, goal = step
    if not is_number(state) or not is_number(goal) or state >= many or goal >= many:
        return False
    return is_word_or_empty(kind) and is_word_or_empty(seen)


def break_of(machine, state, steps):
    """The position of the first step that does not go on, from a state on; None if all do."""
    for place, step in enumerate(steps):
        if not machine.has_step(step) or step[0] != state:
            return place
        state = step[3]
    return None


def is_run(machine, run):
    """Whether a list of steps is a run."""
    return break_of(machine, 0, run) is None


def end_of(run):
    """The state in which a run ends that is known to be one."""
    return run[-1][3] if run else 0


def last_state(machine, run):
    """The state in which a run ends."""
    if not isinstance(run, (list, tuple)):
        raise BadRun(None)
    place = break_of(machine, 0, run)
    if place is not None:
        raise BadRun(place)
    return end_of(run)


def trace_of(run):
    """The list of the words that are seen in a list of steps."""
    return [step[2] for step in run if step[2]]


def shifted(steps, by):
    """Steps between states that are numbered higher by so much."""
    return [(state + by, kind, seen, goal + by) for state, kind, seen, goal in steps]


def union(one, other):
    """The machine that is one of two behind a first step of its own."""
    low, high = 1, 1 + len(one)
    ways = [(0, "", "", low), (0, "", "", high)]
    return Machine(high + len(other), ways + shifted(one.steps, low) + shifted(other.steps, high))
