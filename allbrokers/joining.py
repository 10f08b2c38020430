"""Machines side by side, and machines with words that are hidden or have other names."""

from allbrokers.building import built
from allbrokers.checks import check_free, is_word
from allbrokers.errors import BadKinds
from allbrokers.machines import Machine


def joined(one, other, shared):
    """A machine of pairs of states of two machines, which make steps that show shared words together."""
    check_free(shared)
    return built((0, 0), pair_moves, (one, other, shared))[0]


def pair_moves(part, pair):
    """The moves from a pair of states, for two machines and shared words."""
    one, other, shared = part
    left, right = one.by_state[pair[0]], other.by_state[pair[1]]
    moves = [(kind, seen, (goal, pair[1])) for _, kind, seen, goal in left if seen not in shared]
    moves.extend([(kind, seen, (pair[0], goal)) for _, kind, seen, goal in right if seen not in shared])
    for _, kind, seen, goal in left:
        for _, other_kind, other_seen, other_goal in right:
            if seen in shared and seen == other_seen and go_together(kind, other_kind):
                moves.append((kind or other_kind, seen, (goal, other_goal)))
    return moves


def go_together(kind, other_kind):
    """Whether steps of two kinds can be one: at most one of them is a fall, or both are of one kind."""
    return not kind or not other_kind or kind == other_kind


def hidden(machine, *words):
    """The machine in which some words are not seen."""
    if not all([is_word(word) for word in words]):
        raise BadKinds("not words")
    steps = [(state, kind, "" if seen in words else seen, goal) for state, kind, seen, goal in machine.steps]
    return Machine(len(machine), steps)


def renamed(machine, names):
    """The machine in which words and kinds of falls have other names, as a dict tells."""
    if not isinstance(names, dict) or not all([is_word(word) and is_word(name) for word, name in names.items()]):
        raise BadKinds("not a dict from words to words")
    steps = [(state, names.get(kind, kind), names.get(seen, seen), goal) for state, kind, seen, goal in machine.steps]
    return Machine(len(machine), steps)
