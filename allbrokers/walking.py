"""Walking through machines: all short runs, step by step, and how far states are."""

from allbrokers.errors import BadRun
from allbrokers.machines import end_of, trace_of


def runs(machine, most, *, kinds=None):
    """Generate all runs of at most so many steps, shorter ones first, then ascending."""
    ways = [[step for step in steps if not step[1] or kinds is None or step[1] in kinds] for steps in machine.by_state]
    layer, length = [[]], 0
    while layer and length <= most:
        later = []
        for run in layer:
            yield list(run)
            if length < most:
                later.extend([run + [step] for step in ways[end_of(run)]])
        layer = later
        length += 1


def stepper(machine):
    """A function that goes through a machine from the state 0 on, by a step, or by the first one of its own."""
    state = 0
    many = 0

    # None would not do as the default: a call with None is refused, as any that is no step.
    def go(step=("no", "step", "told")):
        nonlocal state, many
        if step == ("no", "step", "told"):
            ways = machine.by_state[state]
            if not ways or ways[0][1]:
                raise BadRun(many)
            step = ways[0]
        if not machine.has_step(step) or step[0] != state:
            raise BadRun(many)
        state = step[3]
        many += 1
        return state

    return go


def is_seen(run, *words):
    """Whether words are seen in a run in this order, perhaps with others between."""
    place = 0
    for word in trace_of(run):
        if place < len(words) and word == words[place]:
            place += 1
    return place == len(words)


def far_states(machine, *, most=None):
    """The dict from the states in which runs end to the least numbers of their steps."""
    far, layer, length = {0: 0}, [0], 0
    while layer and (most is None or length < most):
        length += 1
        later = []
        for state in layer:
            for step in machine.by_state[state]:
                if step[3] not in far:
                    far[step[3]] = length
                    later.append(step[3])
        layer = later
    return {state: far[state] for state in sorted(far)}
