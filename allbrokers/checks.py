"""Checks of arguments that several modules share."""

from allbrokers.errors import BadAllowances, BadKinds, BadStates


def is_number(value):
    """Whether a value is an integer from 0; booleans are none."""
    return type(value) is int and value >= 0


def is_word(value):
    """Whether a value is a string of 1 to 8 letters from a to z."""
    if not isinstance(value, str) or not 1 <= len(value) <= 8:
        return False
    return value.isascii() and value.isalpha() and value.islower()


def is_word_or_empty(value):
    """Whether a value can be the kind, or the word, of a step."""
    return value == "" or is_word(value)


def is_ascending(rows):
    """Whether the parts of a list or tuple ascend, each once."""
    return all([low < high for low, high in zip(rows, rows[1:])])


def is_state(machine, state):
    """Whether a value is a state of a machine."""
    return is_number(state) and state < len(machine)


def are_states(machine, states):
    """Whether a value is an ascending tuple of states of a machine."""
    if not isinstance(states, tuple) or not all([is_state(machine, state) for state in states]):
        return False
    return is_ascending(states)


def check_state(machine, state):
    """Refuse what is no state of a machine."""
    if not is_state(machine, state):
        raise BadStates("not a state of the machine")


def check_states(machine, states):
    """Refuse what is no ascending tuple of states of a machine."""
    if not are_states(machine, states):
        raise BadStates("not an ascending tuple of states of the machine")


def is_limit(value):
    """Whether a value is an integer from 0, or None for any number."""
    return value is None or is_number(value)


def are_allowances(told):
    """Whether a value is a dict from words to integers from 0, or None."""
    if not isinstance(told, dict):
        return False
    return all([is_word(kind) and is_limit(limit) for kind, limit in told.items()])


def check_allowances(machine, allowances):
    """Refuse what is no dict of allowances for kinds of a machine."""
    if not are_allowances(allowances):
        raise BadAllowances("not a dict from words to integers from 0, or None")
    if not all([kind in machine.kinds for kind in allowances]):
        raise BadAllowances("a word is no kind of the machine")


def check_judged(machine, states, allowances):
    """Refuse states first, then allowances, that are not of a machine."""
    check_states(machine, states)
    check_allowances(machine, allowances)


def check_free(kinds):
    """Refuse what is no ascending tuple of words."""
    if not isinstance(kinds, tuple) or not all([is_word(kind) for kind in kinds]):
        raise BadKinds("not a tuple of words")
    if not is_ascending(kinds):
        raise BadKinds("the words do not ascend")
