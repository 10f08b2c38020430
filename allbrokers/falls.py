"""Falls: vectors, closed tables, runs within allowances, and the least falls that lead to some states."""

from allbrokers.checks import check_judged, check_states
from allbrokers.machines import end_of, is_run, last_state


class Least:
    """The least vectors of the runs that end in some states."""

    def __init__(self, vectors, runs, costs):
        self.vectors = list(vectors)
        self.runs = [list(run) for run in runs]
        self.costs = copied_table(costs)

    def __eq__(self, other):
        return (isinstance(other, Least) and self.vectors == other.vectors
                and self.runs == other.runs and self.costs == other.costs)

    def shows(self, machine, goals):
        """Whether these are the least vectors, with runs and a table that proves it."""
        check_states(machine, goals)
        if not self._has_runs(machine, goals) or self.vectors != least_of(self.vectors):
            return False
        if not is_closed(machine, self.costs, any_number(machine)):
            return False
        ends = [vector for goal in goals for vector in self.costs.get(goal, [])]
        return all([has_below(self.vectors, vector) for vector in ends])

    def _has_runs(self, machine, goals):
        """Whether there is for each vector a run with it that ends in one of the goals."""
        if len(self.runs) != len(self.vectors):
            return False
        for run, vector in zip(self.runs, self.vectors):
            if not is_run(machine, run) or end_of(run) not in goals or falls_of(machine, run) != vector:
                return False
        return True


def least_falls(machine, goals):
    """The least vectors for some states, as evidence."""
    check_states(machine, goals)
    labels = spread(machine, any_number(machine), [True] * len(machine.kinds))
    costs = table_of(labels)
    vectors = least_of([vector for goal in goals for vector in costs.get(goal, [])])
    ends = set(goals)
    places = {}
    for place, label in enumerate(labels):
        if label[0] in ends:
            places.setdefault(label[1], place)
    return Least(vectors, [run_to(labels, places[vector]) for vector in vectors], costs)


def falls_of(machine, run):
    """The vector of a run."""
    last_state(machine, run)
    counts = {kind: 0 for kind in machine.kinds}
    for step in run:
        if step[1]:
            counts[step[1]] += 1
    return tuple([counts[kind] for kind in machine.kinds])


def holds_for(machine, goals, allowances):
    """Whether no run within allowances ends in one of some states."""
    check_judged(machine, goals, allowances)
    costs = table_of(spread_within(machine, allowances))
    return not any([goal in costs for goal in goals])


def is_within(vector, limits):
    """Whether no number is greater than its limit; None is no limit."""
    for number, limit in zip(vector, limits):
        if limit is not None and number > limit:
            return False
    return True


def is_below(low, high):
    """Whether no number of a vector is greater than that of another one."""
    for less, more in zip(low, high):
        if less > more:
            return False
    return True


def has_below(vectors, vector):
    """Whether one of some vectors is below another one."""
    # The same vector is there often, and is found fast.
    if vector in vectors:
        return True
    for low in vectors:
        if is_below(low, vector):
            return True
    return False


def least_of(vectors):
    """The ascending list of the least ones of some vectors, each once."""
    least = []
    # What is below a vector comes ahead of it in this order.
    for vector in sorted(vectors):
        if not has_below(least, vector):
            least.append(vector)
    return least


def raised(vector, place):
    """A vector with one more at a place; the same one if the place is None."""
    if place is None:
        return vector
    return vector[:place] + (vector[place] + 1,) + vector[place + 1:]


def any_number(machine):
    """The limits that allow any number of each kind."""
    return [None] * len(machine.kinds)


def limits_of(machine, allowances):
    """The limits of the kinds of a machine, by ascending kinds."""
    return [allowances.get(kind, 0) for kind in machine.kinds]


def copied_table(costs):
    """A new table with new lists."""
    return {state: list(vectors) for state, vectors in costs.items()}


def are_vectors(machine, vectors):
    """Whether each of some tuples of numbers can be the vector of a run."""
    width = len(machine.kinds)
    return all([len(vector) == width and min(vector, default=0) >= 0 for vector in vectors])


def is_table(machine, costs):
    """Whether a dict is one from states of a machine to lists of vectors."""
    for state, vectors in costs.items():
        if not 0 <= state < len(machine) or not are_vectors(machine, vectors):
            return False
    return True


def is_closed(machine, costs, limits):
    """Whether a dict is a table that is closed for these limits."""
    if not is_table(machine, costs) or (0,) * len(machine.kinds) not in costs.get(0, []):
        return False
    places = {kind: place for place, kind in enumerate(machine.kinds)}
    for state, vectors in costs.items():
        for vector in vectors:
            if is_within(vector, limits) and not goes_on(machine.by_state[state], vector, costs, limits, places):
                return False
    return True


def goes_on(steps, vector, costs, limits, places):
    """Whether the table covers each of some steps from a vector."""
    for step in steps:
        more = raised(vector, places.get(step[1]))
        if is_within(more, limits) and not has_below(costs.get(step[3], []), more):
            return False
    return True


def states_within(costs, limits):
    """The states of a table that have a vector within limits."""
    return [state for state, vectors in costs.items() if any([is_within(vector, limits) for vector in vectors])]


def is_run_within(machine, run, limits):
    """Whether a list of steps is a run with no more falls than the limits."""
    return is_run(machine, run) and is_within(falls_of(machine, run), limits)


def moves_of(machine, limits, is_counted):
    """For each state the pairs of a step that may be made and the place of its kind, None if it is not counted."""
    places = {"": None}
    for place, kind in enumerate(machine.kinds):
        if limits[place] != 0:
            places[kind] = place if is_counted[place] else None
    return [[(step, places[step[1]]) for step in steps if step[1] in places] for steps in machine.by_state]


def spread(machine, limits, is_counted):
    """The labels of the least vectors within limits of all states.

    A label is a state, a vector, the place of the label that it comes from, and the step between, both None at first.
    Falls that are not counted must have no limit; they stay 0 in vectors, which keeps the labels few.
    """
    moves = moves_of(machine, limits, is_counted)
    labels, costs = [], {}
    level = [(0, (0,) * len(machine.kinds), None, None)]
    while level:
        level = spread_level(moves, limits, labels, costs, level)
    return labels


def spread_level(moves, limits, labels, costs, level):
    """Take up labels with one sum of falls, and return those with one more.

    Since all labels with a lesser sum are there already, each label that is taken up has a least vector.
    """
    at, later = len(labels), []
    for label in level:
        take_up(labels, costs, label)
    while at < len(labels):
        state, vector, _, _ = labels[at]
        for step, place in moves[state]:
            label = (step[3], raised(vector, place), at, step)
            if place is None:
                take_up(labels, costs, label)
            elif is_within(label[1], limits) and not has_below(costs.get(step[3], []), label[1]):
                later.append(label)
        at += 1
    return later


def take_up(labels, costs, label):
    """Add a label, if no vector of its state is below; whether it was added."""
    vectors = costs.setdefault(label[0], [])
    if has_below(vectors, label[1]):
        return False
    vectors.append(label[1])
    labels.append(label)
    return True


def spread_within(machine, allowances):
    """The labels of the least vectors within allowances, without the numbers that may be any."""
    limits = limits_of(machine, allowances)
    return spread(machine, limits, [limit is not None for limit in limits])


def table_of(labels):
    """The table of the vectors of some labels."""
    costs = {}
    for label in labels:
        costs.setdefault(label[0], []).append(label[1])
    return costs


def run_to(labels, place):
    """The run that leads to a label."""
    run = []
    while labels[place][2] is not None:
        run.append(labels[place][3])
        place = labels[place][2]
    return run[::-1]


def shortest_run(machine, goals, allowances):
    """A run within allowances that ends in one of some states, none shorter; None if there is none."""
    if 0 in goals:
        return []
    ends = set(goals)
    limits = limits_of(machine, allowances)
    moves = moves_of(machine, limits, [limit is not None for limit in limits])
    labels, costs, at = [], {}, 0
    take_up(labels, costs, (0, (0,) * len(machine.kinds), None, None))
    # A label that has one with a lesser vector may still be needed: that one can be longer.
    while at < len(labels):
        state, vector, _, _ = labels[at]
        for step, place in moves[state]:
            more = raised(vector, place)
            if is_within(more, limits) and take_up(labels, costs, (step[3], more, at, step)):
                if step[3] in ends:
                    return run_to(labels, len(labels) - 1)
        at += 1
    return None
