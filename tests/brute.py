"""Plain, slow definitions that the tests compare the package with, and small machines at random."""

import random

from allbrokers.machines import Machine


def some_machine(rng, most_states=5, most_steps=9, kinds=("x", "y"), words=("a", "b"), own=0.6, unseen=0.5):
    many = rng.randint(1, most_states)
    steps = []
    for _ in range(rng.randint(0, most_steps)):
        kind = "" if not kinds or rng.random() < own else rng.choice(kinds)
        seen = "" if not words or rng.random() < unseen else rng.choice(words)
        steps.append((rng.randrange(many), kind, seen, rng.randrange(many)))
    return Machine(many, steps)


def some_states(rng, machine, most=3):
    states = list(range(len(machine)))
    return tuple(sorted(rng.sample(states, rng.randint(0, min(most, len(states))))))


def some_allowances(rng, machine):
    return {kind: rng.choice([0, 1, 2, 3, None]) for kind in machine.kinds if rng.random() < 0.8}


def rng_of(seed):
    return random.Random(seed)


def ends_within(machine, allowances):
    """The least numbers of steps of runs within allowances, by the states in which they end."""
    finite = [kind for kind in machine.kinds if allowances.get(kind, 0) is not None]
    start = (0, (0,) * len(finite))
    known, layer, far, length = {start}, [start], {0: 0}, 0
    while layer:
        length += 1
        later = []
        for state, counts in layer:
            for own, kind, _, goal in machine.steps:
                if own != state:
                    continue
                more = tuple(n + (kind == name) for n, name in zip(counts, finite))
                if all(n <= allowances.get(name, 0) for n, name in zip(more, finite)):
                    if (goal, more) not in known:
                        known.add((goal, more))
                        later.append((goal, more))
                        far.setdefault(goal, length)
        layer = later
    return far


def vectors_of_ends(machine, goals, most):
    """All vectors with at most so many falls of runs that end in some states."""
    start = (0, (0,) * len(machine.kinds))
    known, queue = {start}, [start]
    while queue:
        state, counts = queue.pop()
        for own, kind, _, goal in machine.steps:
            if own == state:
                more = tuple(n + (kind == name) for n, name in zip(counts, machine.kinds))
                if sum(more) <= most and (goal, more) not in known:
                    known.add((goal, more))
                    queue.append((goal, more))
    return {counts for state, counts in known if state in goals}


def least_vectors(machine, goals):
    """The least vectors; a run need not come to a state twice, so it has fewer falls than states."""
    found = vectors_of_ends(machine, goals, len(machine))
    below = [v for v in found if not any(w != v and all(a <= b for a, b in zip(w, v)) for w in found)]
    return sorted(below)


def own_distances(machine, goals):
    """The least numbers of own steps to goals, by rounds."""
    far = {goal: 0 for goal in goals}
    for length in range(1, len(machine) + 1):
        for state, kind, _, goal in machine.steps:
            if not kind and state not in far and far.get(goal) == length - 1:
                far[state] = length
    return far


def most_own_steps(machine, goals, start):
    """The greatest number of own steps from a state until a goal; None if there is none."""
    layer, length = {start}, 0
    while True:
        layer = {step[3] for step in machine.steps if step[0] in layer and step[0] not in goals and not step[1]}
        if not layer:
            return length
        length += 1
        if length > len(machine):
            return None


def unseen_ends(machine, states, free):
    states = set(states)
    while True:
        more = {s[3] for s in machine.steps if s[0] in states and not s[2] and (not s[1] or s[1] in free)}
        if more <= states:
            return frozenset(states)
        states |= more


def ends_behind(machine, trace, free):
    """The states in which runs with a trace end."""
    states = unseen_ends(machine, {0}, free)
    for word in trace:
        goals = {s[3] for s in machine.steps if s[0] in states and s[2] == word and (not s[1] or s[1] in free)}
        states = unseen_ends(machine, goals, free)
    return states


def first_unlike(one, other, free):
    """The length of the shortest trace of just one of two machines, None if there is none."""
    words = sorted(set(one.words + other.words))
    layer, known, length = [()], set(), 0
    while layer:
        length += 1
        later = []
        for trace in layer:
            for word in words:
                pair = ends_behind(one, trace + (word,), free), ends_behind(other, trace + (word,), free)
                if bool(pair[0]) != bool(pair[1]):
                    return length
                if pair[0] and pair not in known:
                    known.add(pair)
                    later.append(trace + (word,))
        layer = later
    return None


def told_by_trace(machine, trace, free):
    """What watch tells, by pairs of a state and whether there was a fall of the kind."""
    found = {}
    steps = [step for step in machine.steps if not step[1] or step[1] in free]
    for kind in free:
        now = spread_marked(steps, {(0, False)}, kind)
        for word in trace:
            now = {(s[3], mark or s[1] == kind) for s in steps for state, mark in now if s[0] == state and s[2] == word}
            now = spread_marked(steps, now, kind)
        marks = {mark for _, mark in now}
        found[kind] = {(True,): "certain", (False,): "out"}.get(tuple(sorted(marks)), "possible")
    return found


def spread_marked(steps, now, kind):
    while True:
        more = {(s[3], mark or s[1] == kind) for s in steps for state, mark in now if s[0] == state and not s[2]}
        if more <= now:
            return now
        now = now | more


def twin_ranks(machine, kind, free):
    """The greatest numbers of words behind pairs, the first one behind a fall; None where there is none."""
    steps = [step for step in machine.steps if not step[1] or step[1] in free]

    def moves(node):
        (one, mark), other = node
        for s in steps:
            if s[0] == one and not s[2]:
                yield ((s[3], mark or s[1] == kind), other), 0
            if s[0] == other and not s[2] and s[1] != kind:
                yield ((one, mark), s[3]), 0
            for t in steps:
                if s[0] == one and t[0] == other and s[2] and s[2] == t[2] and t[1] != kind:
                    yield ((s[3], mark or s[1] == kind), t[3]), 1

    known, queue = {((0, False), 0)}, [((0, False), 0)]
    while queue:
        for node, _ in moves(queue.pop()):
            if node not in known:
                known.add(node)
                queue.append(node)
    longest = {node: 0 for node in known if node[0][1]}
    ways = {node: list(moves(node)) for node in longest}
    for _ in range((len(longest) + 1) ** 2):
        later = {node: max([longest[goal] + word for goal, word in ways[node]], default=0) for node in ways}
        if later == longest or max(later.values()) > len(longest):
            break
        longest = later
    is_endless = later != longest if longest else False
    ranks = {(node[0][0], node[1]): number for node, number in longest.items()}
    return {pair: None for pair in ranks} if is_endless else ranks


def same_pairs(machine, marks):
    """The greatest relation of states that do the same."""
    def color(state):
        return [state in mark for mark in marks]

    states = range(len(machine))
    same = {(p, q) for p in states for q in states if color(p) == color(q)}

    def follows(p, q):
        for state, kind, seen, goal in machine.steps:
            if state == p and not any(w[0] == q and w[1:3] == (kind, seen) and (goal, w[3]) in same
                                      for w in machine.steps):
                return False
        return True

    while True:
        less = {(p, q) for p, q in same if follows(p, q) and follows(q, p)}
        if less == same:
            return same
        same = less


def formula_holds(machine, state, formula, marks):
    if formula[0] == "in":
        return formula[1] < len(marks) and state in marks[formula[1]]
    if formula[0] == "not":
        return not formula_holds(machine, state, formula[1], marks)
    return any(step[1:3] == formula[1:3] and all(formula_holds(machine, step[3], part, marks) for part in formula[3])
               for step in machine.steps if step[0] == state)


def formula_depth(formula):
    if formula[0] == "in":
        return 1
    parts = [formula[1]] if formula[0] == "not" else formula[3]
    return 1 + max([formula_depth(part) for part in parts], default=0)
