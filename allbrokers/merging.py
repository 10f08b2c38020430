"""States and machines that do the same, and formulas that tell states apart."""

from allbrokers.checks import check_state, check_states, is_number, is_word_or_empty
from allbrokers.errors import BadFormula, TooLarge
from allbrokers.machines import Machine

MOST_DEPTH = 200
MOST_TOLD = 60


def classes(machine, *marks):
    """The numbers of the classes of all states that do the same, in the order of their least states."""
    check_marks(machine, marks)
    return numbered(refined(ways_of(machine, 0), colors_of(machine, marks)))


def merged(machine, *marks):
    """The machine of the classes of the states in which runs end."""
    numbers = classes(machine, *marks)
    states = machine.reached()
    names = {}
    for state in states:
        names.setdefault(numbers[state], len(names))
    steps = [step for state in states for step in machine.by_state[state]]
    ways = [(names[numbers[state]], kind, seen, names[numbers[goal]]) for state, kind, seen, goal in steps]
    return Machine(len(names), ways)


def do_the_same(one, other):
    """Whether the states 0 of two machines do the same."""
    many = len(one)
    blocks = refined(ways_of(one, 0) + ways_of(other, many), [()] * (many + len(other)))
    return blocks[0] == blocks[many]


def told_apart(machine, one, other, *marks):
    """A formula that holds for one state and not for another one, None if they do the same."""
    check_state(machine, one)
    check_state(machine, other)
    check_marks(machine, marks)
    if len(machine) > MOST_TOLD:
        raise TooLarge("more than 60 states")
    rounds = rounds_of(ways_of(machine, 0), colors_of(machine, marks))
    if rounds[-1][one] == rounds[-1][other]:
        return None
    return Telling(machine, marks, rounds).formula(one, other)


def holds(machine, state, formula, *marks):
    """Whether a formula holds for a state."""
    check_state(machine, state)
    check_formula(formula)
    check_marks(machine, marks)
    return state in holding(machine, {state: True}, formula, [{one: True for one in mark} for mark in marks])


def check_marks(machine, marks):
    """Refuse marks that are no ascending tuples of states."""
    for mark in marks:
        check_states(machine, mark)


def check_formula(formula):
    """Refuse what is no formula, or nested too deep."""
    layer, depth = [formula], 0
    while layer:
        depth += 1
        if depth > MOST_DEPTH:
            raise BadFormula("nested too deep")
        if not all([is_formula_outside(part) for part in layer]):
            raise BadFormula("not a formula")
        layer = [inner for part in layer for inner in parts_of(part)]


def is_formula_outside(formula):
    """Whether a value is a formula as far as can be seen without a look at the formulas in it."""
    if not isinstance(formula, tuple) or not formula:
        return False
    if formula[0] == "in":
        return len(formula) == 2 and is_number(formula[1])
    if formula[0] == "not":
        return len(formula) == 2
    if formula[0] != "can" or len(formula) != 4:
        return False
    return is_word_or_empty(formula[1]) and is_word_or_empty(formula[2]) and isinstance(formula[3], tuple)


def parts_of(formula):
    """The formulas that stand directly in a formula."""
    if formula[0] == "in":
        return []
    return [formula[1]] if formula[0] == "not" else list(formula[3])


def holding(machine, states, formula, marks):
    """Those of some states, the keys of a dict, for which a formula holds; marks are such dicts, too."""
    if not states:
        return states
    if formula[0] == "in":
        mark = marks[formula[1]] if formula[1] < len(marks) else {}
        return {state: True for state in states if state in mark}
    if formula[0] == "not":
        others = holding(machine, states, formula[1], marks)
        return {state: True for state in states if state not in others}
    steps = [step for state in states for step in machine.by_state[state] if step[1:3] == formula[1:3]]
    goals = {step[3]: True for step in steps}
    for part in formula[3]:
        goals = holding(machine, goals, part, marks)
    return {step[0]: True for step in steps if step[3] in goals}


def ways_of(machine, by):
    """For each state the triples of kind, seen and goal of its steps, the goals higher by so much."""
    return [[(kind, seen, goal + by) for _, kind, seen, goal in steps] for steps in machine.by_state]


def colors_of(machine, marks):
    """For each state the tuple of the places of the marks in which it is."""
    places = [[] for _ in range(len(machine))]
    for place, mark in enumerate(marks):
        for state in mark:
            places[state].append(place)
    return [tuple(row) for row in places]


def numbered(labels):
    """Numbers from 0 for labels, the same for the same ones, in the order in which they come first."""
    numbers = {}
    return [numbers.setdefault(label, len(numbers)) for label in labels]


def signature(ways, blocks):
    """What a state can do: its kinds and words, with the blocks of the goals."""
    return tuple(sorted({(kind, seen, blocks[goal]) for kind, seen, goal in ways}))


def refined(ways, colors):
    """The blocks of the states that do the same, among those of one color."""
    partition = Partition(ways, numbered(colors))
    touched = list(range(len(ways)))
    while touched:
        moved = partition.divide(touched)
        touched = sorted({source for state in moved for source in partition.sources[state]})
    return partition.blocks


class Partition:
    """Blocks of states, divided until the states of each do the same.

    Only states with a step to a state that moved are looked at again, and the largest part of a block stays in it:
    so each state moves seldom, also in long chains.
    """

    def __init__(self, ways, blocks):
        self.blocks = list(blocks)
        self.sources = [[] for _ in ways]
        for state, row in enumerate(ways):
            for _, _, goal in row:
                self.sources[goal].append(state)
        self._ways = ways
        self._members = [{} for _ in range(max(blocks) + 1)]
        for state, block in enumerate(blocks):
            self._members[block][state] = True
        # The signature of those members of a block that are not touched.
        self._signatures = [None] * len(self._members)

    def divide(self, touched):
        """Divide the blocks of states whose goals moved; the list of the states that move by this."""
        groups = {}
        for state in touched:
            group = groups.setdefault(self.blocks[state], {})
            group.setdefault(signature(self._ways[state], self.blocks), []).append(state)
        moved = []
        for block, group in list(groups.items()):
            moved.extend(self._divide_block(block, group))
        return moved

    def _divide_block(self, block, groups):
        """Divide a block by the signatures of its touched states, of which the groups are given."""
        rest = len(self._members[block]) - sum([len(group) for group in groups.values()])
        stays = self._signatures[block]
        if rest == 0 or max([len(group) for group in groups.values()]) > rest + len(groups.get(stays, [])):
            self._add_rest(block, groups, rest)
            stays = sorted([(len(group), sign) for sign, group in groups.items()])[-1][1]
        self._signatures[block] = stays
        moved = []
        for sign, group in groups.items():
            if sign != stays:
                self._move(block, sign, group)
                moved.extend(group)
        return moved

    def _add_rest(self, block, groups, rest):
        """Add the members of a block that are not touched to the groups."""
        if rest:
            touched = {state for group in groups.values() for state in group}
            others = [state for state in self._members[block] if state not in touched]
            groups.setdefault(self._signatures[block], []).extend(others)

    def _move(self, block, sign, group):
        """Move states of a block into a new one."""
        self._members.append({state: True for state in group})
        self._signatures.append(sign)
        for state in group:
            del self._members[block][state]
            self.blocks[state] = len(self._members) - 1


def rounds_of(ways, colors):
    """The classes of states that do the same for 0, 1, .. steps, until they stay as they are."""
    rounds = [numbered(colors)]
    while True:
        blocks = rounds[-1]
        finer = numbered([(blocks[state], signature(row, blocks)) for state, row in enumerate(ways)])
        if finer == blocks:
            return rounds
        rounds.append(finer)


class Telling:
    """Formulas for all pairs of states that do not do the same, each as a triple of its size, itself, and its truth.

    The truth is a list that tells for each state whether the formula holds. Formulas are made for pairs that differ
    after few steps first, of those for the goals behind, and the smaller one is taken, since sizes can multiply.
    """

    def __init__(self, machine, marks, rounds):
        self._machine = machine
        self._told = {}
        self._by_label = {}
        self._goals = [{} for _ in range(len(machine))]
        for step in machine.steps:
            self._by_label.setdefault(step[1:3], []).append(step)
            self._goals[step[0]].setdefault(step[1:3], []).append(step[3])
        colors = colors_of(machine, marks)
        for one, other in pairs_apart(rounds[0], [0] * len(machine)):
            self._tell(one, other, self._by_mark(colors, one, other), self._by_mark(colors, other, one))
        for blocks, finer in zip(rounds, rounds[1:]):
            for one, other in pairs_apart(finer, blocks):
                self._tell(one, other, self._by_step(blocks, one, other), self._by_step(blocks, other, one))

    def formula(self, one, other):
        """The formula that holds for one state and not for another one."""
        return self._told[(one, other)][1]

    def _tell(self, one, other, here, there):
        """Keep the smaller formulas for a pair, of one that holds here alone, and one that holds there alone."""
        self._told[(one, other)] = smaller(here, negated(there))
        self._told[(other, one)] = smaller(there, negated(here))

    def _by_mark(self, colors, one, other):
        """A formula by a mark in which one state is and the other one is not; None if there is none."""
        places = [place for place in colors[one] if place not in colors[other]]
        if not places:
            return None
        return 1, ("in", places[0]), [places[0] in color for color in colors]

    def _by_step(self, blocks, one, other):
        """A formula by a step of one state alike to which the other one has none; None if there is none."""
        best = None
        for label, goals in self._goals[one].items():
            others = {blocks[goal]: goal for goal in self._goals[other].get(label, [])}
            apart = {blocks[goal]: goal for goal in goals if blocks[goal] not in others}
            for goal in apart.values():
                parts = self._apart_from(goal, list(others.values()))
                size = 1 + sum([part[0] for part in parts])
                if best is None or size < best[0]:
                    best = size, label, parts
        return None if best is None else self._can(best[0], best[1], best[2])

    def _apart_from(self, goal, others):
        """Formulas that hold for a state, for none of others all of them."""
        parts = []
        while others:
            told = [self._told[(goal, other)] for other in others]
            most = max([count_false(part[2], others) for part in told])
            size = min([part[0] for part in told if count_false(part[2], others) == most])
            best = [part for part in told if (part[0], count_false(part[2], others)) == (size, most)][0]
            parts.append(best)
            others = [other for other in others if best[2][other]]
        return parts

    def _can(self, size, label, parts):
        """The formula that a step with a kind and a word leads to a state for which others hold."""
        truth = [False] * len(self._machine)
        for step in self._by_label[label]:
            if all([part[2][step[3]] for part in parts]):
                truth[step[0]] = True
        return size, ("can", label[0], label[1], tuple([part[1] for part in parts])), truth


def pairs_apart(finer, blocks):
    """The pairs of states, the lesser one first, that are in one block, but not in one of the finer ones."""
    many = len(blocks)
    pairs = [(one, other) for one in range(many) for other in range(one + 1, many) if blocks[one] == blocks[other]]
    return [(one, other) for one, other in pairs if finer[one] != finer[other]]


def negated(told):
    """The formula that does not hold where one does, None for None."""
    if told is None:
        return None
    return told[0] + 1, ("not", told[1]), [not holds_there for holds_there in told[2]]


def smaller(one, other):
    """The smaller one of two formulas, of which one may be None."""
    if one is None or (other is not None and other[0] < one[0]):
        return other
    return one


def count_false(truth, states):
    """For how many of some states a formula does not hold."""
    return len([state for state in states if not truth[state]])
