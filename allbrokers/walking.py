"""Walking through machines: all short runs, step by step, and how far states are."""

from allbrokers.errors import BadRun
from allbrokers.machines import end_of, trace_of


def runs(machine, most, *, kinds=None):
    """Generate all runs of at most so many steps, shorter ones first, then ascending."""
    ways = [[step for step in steps if not step[1] or kinds is None or step[1] in kinds] for steps in machine.by_state]
    layer = [[]] if most >= 0 else []
    length = 0
    while layer:
        for run in layer:
            yield list(run)
        layer = [run + [step] for run in layer for step in ways[end_of(run)]] if length < most else []
        length += 1


def stepper(machine):
    """A function that goes through a machine from the state 0 on, by a step, or by the first one of its own."""
    state = 0
    many = 0

    # What is given is counted: a value that stands for none could be given, too, and must be refused then.
    def go(*told, **named):
        nonlocal state, many
        given = list(told) + list(named.values())
        step = given[0] if given else first_own(machine, state)
        if not machine.has_step(step) or step[0] != state:
            raise BadRun(many)
        state = step[3]
        many += 1
        return state

    return go


def first_own(machine, state):
    """The first step of its own from a state, None if there is none."""
    for step in machine.by_state[state]:
        if not step[1]:
            return step
    return None


def is_seen(run, *words):
    """Whether words are seen in a run in this order, perhaps with others between."""
    place = 0
    for word in trace_of(run):
        if place < len(words) and word == words[place]:
            place += 1
    return place == len(words)


def far_states(machine, *, most=None):
    """The dict from the states in which runs end to the least numbers of their steps."""
    if most is not None and most < 0:
        return {}
    far, queue, at = {0: 0}, [0], 0
    while at < len(queue):
        state = queue[at]
        goals = [step[3] for step in machine.by_state[state]] if most is None or far[state] < most else []
        for goal in goals:
            if goal not in far:
                far[goal] = far[state] + 1
                queue.append(goal)
        at += 1
    return {state: far[state] for state in sorted(far)}
