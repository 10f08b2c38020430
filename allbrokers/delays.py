"""Delays: how many own steps a machine makes, behind runs within allowances, until it is in a goal."""

from allbrokers.checks import check_judged
from allbrokers.falls import copied_table, is_closed, is_run_within, limits_of, run_to, spread_within, states_within
from allbrokers.falls import table_of
from allbrokers.machines import break_of, end_of


class Longest:
    """The greatest number of own steps, with a run that makes them, and ranks by which there are no more."""

    def __init__(self, number, run, ranks, costs):
        self.number = number
        self.run = list(run)
        self.ranks = dict(ranks)
        self.costs = copied_table(costs)

    def __eq__(self, other):
        return (isinstance(other, Longest) and self.number == other.number and self.run == other.run
                and self.ranks == other.ranks and self.costs == other.costs)

    def __bool__(self):
        return True

    def shows(self, machine, goals, allowances):
        """Whether the run ends with so many own steps, and the ranks fall with each own step."""
        check_judged(machine, goals, allowances)
        limits = limits_of(machine, allowances)
        if not 0 <= self.number <= len(self.run) or not is_run_within(machine, self.run, limits):
            return False
        if not are_on_the_way(self.run[len(self.run) - self.number:], goals):
            return False
        return is_closed(machine, self.costs, limits) and self._has_ranks(machine, goals, limits)

    def _has_ranks(self, machine, goals, limits):
        """Whether all states of the table, and all of its keys, have ranks as they must be."""
        if not all([0 <= state < len(machine) for state in self.ranks]):
            return False
        states = states_within(self.costs, limits)
        if not all([0 <= self.ranks.get(state, -1) <= self.number for state in states]):
            return False
        ways = [step for state in states for step in own_steps(machine, goals, state)]
        return all([self.ranks[step[3]] < self.ranks[step[0]] for step in ways])


class Endless:
    """A run within the allowances, and a loop of own steps from its end, without goals."""

    def __init__(self, run, loop):
        self.run = list(run)
        self.loop = list(loop)

    def __eq__(self, other):
        return isinstance(other, Endless) and self.run == other.run and self.loop == other.loop

    def __bool__(self):
        return False

    def shows(self, machine, goals, allowances):
        """Whether the loop leads from the end of the run back to it, by own steps from no goals."""
        check_judged(machine, goals, allowances)
        if not is_run_within(machine, self.run, limits_of(machine, allowances)) or not self.loop:
            return False
        if break_of(machine, end_of(self.run), self.loop) is not None:
            return False
        return self.loop[-1][3] == end_of(self.run) and are_on_the_way(self.loop, goals)


def delay(machine, goals, allowances):
    """Longest or Endless: how many own steps are made until a goal is reached, or none is left."""
    check_judged(machine, goals, allowances)
    labels = spread_within(machine, allowances)
    costs = table_of(labels)
    ways = {state: own_steps(machine, goals, state) for state in costs}
    ranks = delay_ranks(ways)
    if len(ranks) < len(ways):
        loop = loop_of({state: ways[state] for state in ways if state not in ranks})
        return Endless(run_to(labels, place_of(labels, loop[0][0])), loop)
    number = max(list(ranks.values()))
    start = [state for state in ranks if ranks[state] == number][0]
    run = run_to(labels, place_of(labels, start)) + descent(ways, ranks, start)
    return Longest(number, run, ranks, costs)


def are_on_the_way(steps, goals):
    """Whether all of some steps are own ones, none of them from a goal."""
    return all([not step[1] and step[0] not in goals for step in steps])


def own_steps(machine, goals, state):
    """The own steps from a state, none from a goal."""
    if state in goals:
        return []
    return [step for step in machine.by_state[state] if not step[1]]


def place_of(labels, state):
    """The place of the first label of a state."""
    for place, label in enumerate(labels):
        if label[0] == state:
            return place
    return None


def delay_ranks(ways):
    """The greatest numbers of steps that can be made from states, for those where there is a greatest one."""
    sources = {state: [] for state in ways}
    left = {state: len(ways[state]) for state in ways}
    for state in ways:
        for step in ways[state]:
            sources[step[3]].append(state)
    ranks, queue, at = {}, [state for state in ways if not left[state]], 0
    while at < len(queue):
        state = queue[at]
        ranks[state] = max([ranks[step[3]] + 1 for step in ways[state]], default=0)
        for source in sources[state]:
            left[source] -= 1
            if left[source] == 0:
                queue.append(source)
        at += 1
    return ranks


def loop_of(ways):
    """A loop of steps between some states, from each of which one leads to another of them."""
    state, walk, places = list(ways)[0], [], {}
    while state not in places:
        places[state] = len(walk)
        walk.append([step for step in ways[state] if step[3] in ways][0])
        state = walk[-1][3]
    return walk[places[state]:]


def descent(ways, ranks, state):
    """Steps from a state on along which the ranks fall by 1 down to 0."""
    walk = []
    while ranks[state]:
        walk.append([step for step in ways[state] if ranks[step[3]] == ranks[state] - 1][0])
        state = walk[-1][3]
    return walk
