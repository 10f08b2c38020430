"""What is seen from outside: the words in the steps of runs without barred falls."""

from allbrokers.checks import are_states, check_free


class Alike:
    """Two machines have the same traces, by pairs of what can be behind a trace in both."""

    def __init__(self, pairs):
        self.pairs = list(pairs)

    def __eq__(self, other):
        return isinstance(other, Alike) and self.pairs == other.pairs

    def __bool__(self):
        return True

    def shows(self, one, other, free):
        """Whether the pairs begin at first, and go on by all words, the same ones in both machines."""
        check_free(free)
        for low, high in self.pairs:
            if not are_states(one, low) or not are_states(other, high):
                return False
        first, second = outlook_of(one, free), outlook_of(other, free)
        known = {pair: True for pair in self.pairs}
        if (first.spread([0]), second.spread([0])) not in known:
            return False
        return all([goes_on_alike(first, second, pair, known) for pair in known])


class Unlike:
    """A shortest trace of just one of two machines, and whether it is one of the first."""

    def __init__(self, trace, is_first):
        self.trace = list(trace)
        self.is_first = is_first

    def __eq__(self, other):
        return isinstance(other, Unlike) and self.trace == other.trace and self.is_first == other.is_first

    def __bool__(self):
        return False

    def shows(self, one, other, free):
        """Whether the trace is one of just the machine that is told, and none is shorter."""
        check_free(free)
        if is_trace(one, self.trace, free) != self.is_first or is_trace(other, self.trace, free) == self.is_first:
            return False
        return len(judge_alike(one, other, free).trace) == len(self.trace)


class Outlook:
    """What can be seen next, by steps that are given as triples of a state, a word or nothing, and a goal."""

    def __init__(self, many, steps):
        self.unseen = [[] for _ in range(many)]
        self.by_word = [{} for _ in range(many)]
        for state, seen, goal in steps:
            if seen:
                self.by_word[state].setdefault(seen, []).append(goal)
            else:
                self.unseen[state].append(goal)

    def spread(self, states):
        """The ascending tuple of some states and those to which unseen steps lead from them."""
        queue, at = sorted(set(states)), 0
        known = set(states)
        while at < len(queue):
            state = queue[at]
            for goal in self.unseen[state]:
                if goal not in known:
                    known.add(goal)
                    queue.append(goal)
            at += 1
        return tuple(sorted(queue))

    def words_at(self, states):
        """The ascending list of the words that can be seen next in some states."""
        return sorted({word for state in states for word in self.by_word[state]})

    def after(self, states, word):
        """The ascending tuple of the states behind a word that is seen in some states."""
        return self.spread([goal for state in states for goal in self.by_word[state].get(word, [])])


def open_steps(machine, free):
    """The steps of a machine that are no barred falls."""
    return [step for step in machine.steps if not step[1] or step[1] in free]


def outlook_of(machine, free):
    """What can be seen of a machine, without barred falls."""
    return Outlook(len(machine), [(state, seen, goal) for state, _, seen, goal in open_steps(machine, free)])


def goes_on_alike(first, second, pair, known):
    """Whether a pair has all that unseen steps lead to, and both see the same words, to pairs that are known."""
    low, high = pair
    if first.spread(low) != low or second.spread(high) != high:
        return False
    words = first.words_at(low)
    if words != second.words_at(high):
        return False
    return all([(first.after(low, word), second.after(high, word)) in known for word in words])


def judge_alike(one, other, free):
    """Alike or Unlike: whether two machines have the same traces of runs without barred falls."""
    check_free(free)
    first, second = outlook_of(one, free), outlook_of(other, free)
    pairs, origins, at = [(first.spread([0]), second.spread([0]))], [None], 0
    known = {pairs[0]: True}
    while at < len(pairs):
        low, high = pairs[at]
        for word in sorted(set(first.words_at(low) + second.words_at(high))):
            behind = (first.after(low, word), second.after(high, word))
            if not behind[0] or not behind[1]:
                return Unlike(trace_to(origins, at) + [word], bool(behind[0]))
            if behind not in known:
                known[behind] = True
                pairs.append(behind)
                origins.append((at, word))
        at += 1
    return Alike(pairs)


def trace_to(origins, at):
    """The words that lead to a place, by the place and the word that each place comes from."""
    trace = []
    while origins[at] is not None:
        at, word = origins[at]
        trace.append(word)
    return trace[::-1]


def is_trace(machine, trace, free):
    """Whether words are a trace of a run without barred falls."""
    check_free(free)
    outlook = outlook_of(machine, free)
    states = outlook.spread([0])
    for word in trace:
        states = outlook.after(states, word)
    return len(states) > 0
