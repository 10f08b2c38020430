"""Building machines whose states are given as tuples, by the moves from each of them."""

from allbrokers.errors import TooLarge
from allbrokers.machines import MOST_STATES, Machine


def built(first, moves_of, part):
    """The pair of a machine and the list of its states: the first one, and all others to which it comes, ascending.

    moves_of(part, state) gives the triples of the kind, the word and the goal of the steps from a state.
    """
    known, queue, ways = {first: True}, [first], []
    while len(ways) < len(queue):
        moves = moves_of(part, queue[len(ways)])
        for _, _, goal in moves:
            if goal not in known:
                known[goal] = True
                queue.append(goal)
        if len(queue) > MOST_STATES:
            raise TooLarge("more than 3000 states")
        ways.append(moves)
    states = [first] + sorted(queue[1:])
    numbers = {state: number for number, state in enumerate(states)}
    steps = []
    for state, moves in zip(queue, ways):
        steps.extend([(numbers[state], kind, seen, numbers[goal]) for kind, seen, goal in moves])
    return Machine(len(states), steps), states
