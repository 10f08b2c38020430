"""Promises that hold for all runs within allowances: never in some states, never out of reach of others."""

from allbrokers.checks import are_states, check_judged, check_states
from allbrokers.falls import copied_table, is_closed, is_run_within, limits_of, run_to, shortest_run, spread_within
from allbrokers.falls import states_within, table_of
from allbrokers.machines import end_of


class Kept:
    """No run within the allowances ends in the bad states, by a closed table."""

    def __init__(self, costs):
        self.costs = copied_table(costs)

    def __eq__(self, other):
        return isinstance(other, Kept) and self.costs == other.costs

    def __bool__(self):
        return True

    def shows(self, machine, bad, allowances):
        """Whether the table is closed and has no vector within the allowances for a bad state."""
        check_judged(machine, bad, allowances)
        limits = limits_of(machine, allowances)
        if not is_closed(machine, self.costs, limits):
            return False
        return not any([state in bad for state in states_within(self.costs, limits)])


class Broken:
    """A shortest run within the allowances that ends in a bad state."""

    def __init__(self, run):
        self.run = list(run)

    def __eq__(self, other):
        return isinstance(other, Broken) and self.run == other.run

    def __bool__(self):
        return False

    def shows(self, machine, bad, allowances):
        """Whether the run is within the allowances, ends in a bad state, and none is shorter."""
        check_judged(machine, bad, allowances)
        if not is_run_within(machine, self.run, limits_of(machine, allowances)) or end_of(self.run) not in bad:
            return False
        return len(shortest_run(machine, bad, allowances)) == len(self.run)


def judge_never(machine, bad, allowances):
    """Kept or Broken: whether no run within allowances ends in some states."""
    check_judged(machine, bad, allowances)
    costs = table_of(spread_within(machine, allowances))
    if any([state in costs for state in bad]):
        return Broken(shortest_run(machine, bad, allowances))
    return Kept(costs)


class Able:
    """From all ends of runs within the allowances own steps lead to goals, by ranks."""

    def __init__(self, ranks, costs):
        self.ranks = dict(ranks)
        self.costs = copied_table(costs)

    def __eq__(self, other):
        return isinstance(other, Able) and self.ranks == other.ranks and self.costs == other.costs

    def __bool__(self):
        return True

    def shows(self, machine, goals, allowances):
        """Whether the table is closed, and the ranks lead from all of its states to goals."""
        check_judged(machine, goals, allowances)
        return is_ranked(machine, goals, limits_of(machine, allowances), self.ranks, self.costs)


class Stuck:
    """A run within the allowances to a state from which own steps lead to no goal."""

    def __init__(self, run, dead):
        self.run = list(run)
        self.dead = tuple(dead)

    def __eq__(self, other):
        return isinstance(other, Stuck) and self.run == other.run and self.dead == other.dead

    def __bool__(self):
        return False

    def shows(self, machine, goals, allowances):
        """Whether the run ends in one of the dead states, and own steps stay in them, without goals."""
        check_judged(machine, goals, allowances)
        if not are_states(machine, self.dead) or not is_run_within(machine, self.run, limits_of(machine, allowances)):
            return False
        dead = set(self.dead)
        if end_of(self.run) not in dead or any([goal in dead for goal in goals]):
            return False
        ways = [step for state in self.dead for step in machine.by_state[state]]
        return all([step[3] in dead for step in ways if not step[1]])


class Farthest:
    """The greatest number of own steps that are needed to a goal, behind runs within the allowances."""

    def __init__(self, number, run, ranks, costs):
        self.number = number
        self.run = list(run)
        self.ranks = dict(ranks)
        self.costs = copied_table(costs)

    def __eq__(self, other):
        return (isinstance(other, Farthest) and self.number == other.number and self.run == other.run
                and self.ranks == other.ranks and self.costs == other.costs)

    # DOC.md [6]: True is for Able alone.
    def __bool__(self):
        return False

    def shows(self, machine, goals, allowances):
        """Whether the run's end is as far from the goals as the number, and no rank is greater."""
        check_judged(machine, goals, allowances)
        limits = limits_of(machine, allowances)
        if not is_run_within(machine, self.run, limits):
            return False
        if not is_ranked(machine, goals, limits, self.ranks, self.costs):
            return False
        if distances(machine, goals).get(end_of(self.run)) != self.number:
            return False
        return all([self.ranks[state] <= self.number for state in states_within(self.costs, limits)])


def judge_can(machine, goals, allowances):
    """Able or Stuck: whether no run within allowances ends in a dead state."""
    check_judged(machine, goals, allowances)
    labels, far = spread_within(machine, allowances), distances(machine, goals)
    for place, label in enumerate(labels):
        if label[0] not in far:
            return Stuck(run_to(labels, place), dead_states(machine, goals))
    return Able({label[0]: far[label[0]] for label in labels}, table_of(labels))


def farthest(machine, goals, allowances):
    """Farthest, or Stuck if a run within allowances ends in a dead state."""
    found = judge_can(machine, goals, allowances)
    if not found:
        return found
    labels, number = spread_within(machine, allowances), max(found.ranks.values())
    places = [place for place, label in enumerate(labels) if found.ranks[label[0]] == number]
    return Farthest(number, run_to(labels, places[0]), found.ranks, found.costs)


def dead_states(machine, goals):
    """The ascending tuple of the states from which no own steps lead to a goal."""
    check_states(machine, goals)
    far = distances(machine, goals)
    return tuple([state for state in range(len(machine)) if state not in far])


def distances(machine, goals):
    """The least numbers of own steps to a goal, for all states that are not dead."""
    sources = [[] for _ in range(len(machine))]
    for step in machine.steps:
        if not step[1]:
            sources[step[3]].append(step[0])
    far, queue, at = {goal: 0 for goal in goals}, list(goals), 0
    while at < len(queue):
        state = queue[at]
        for source in sources[state]:
            if source not in far:
                far[source] = far[state] + 1
                queue.append(source)
        at += 1
    return far


def is_ranked(machine, goals, limits, ranks, costs):
    """Whether a closed table and ranks show that all of its states lead to goals."""
    if not is_closed(machine, costs, limits):
        return False
    if not all([state in ranks for state in states_within(costs, limits)]):
        return False
    return all([leads_on(machine, goals, ranks, state) for state in ranks])


def leads_on(machine, goals, ranks, state):
    """Whether a state with the rank 0 is a goal, and one with another rank leads to a lesser one."""
    if not 0 <= state < len(machine) or ranks[state] < 0:
        return False
    if ranks[state] == 0:
        return state in goals
    ends = [step[3] for step in machine.by_state[state] if not step[1]]
    return any([ranks[end] < ranks[state] for end in ends if end in ranks])
