"""What a watcher can tell of falls, who sees the words in the steps alone."""

from allbrokers.checks import check_free
from allbrokers.errors import BadKinds, NotSeen
from allbrokers.machines import break_of, end_of, is_run, trace_of
from allbrokers.outside import Outlook, open_steps, outlook_of


class Told:
    """The greatest number of words behind a fall that is not certain, by ranks of pairs of states."""

    def __init__(self, number, ranks):
        self.number = number
        self.ranks = {pair: ranks[pair] for pair in ranks}

    def __eq__(self, other):
        return isinstance(other, Told) and self.number == other.number and self.ranks == other.ranks

    def __bool__(self):
        return True

    def shows(self, machine, kind, free):
        """Whether the number is the greatest, and the ranks are those of just the pairs and fall as they must."""
        check_asked(kind, free)
        twins = Twins(machine, kind, free)
        found = told_of(twins)
        if not isinstance(found, Told) or found.number != self.number or len(found.ranks) != len(self.ranks):
            return False
        if not all([0 <= self.ranks.get(pair, -1) <= self.number for pair in found.ranks]):
            return False
        return all([self._falls(twins, at) for at in twins.behind_falls()])

    def _falls(self, twins, at):
        """Whether the rank of a place is not exceeded behind its moves, and falls where a word is seen."""
        rank = self.ranks[twins.states_at(at)]
        return all([self.ranks[twins.states_at(move[0])] <= rank - shows_word(move) for move in twins.moves[at]])


class Hidden:
    """Two runs with the same trace, one with a fall, one without, that go on so without end."""

    def __init__(self, run, other, loop, other_loop):
        self.run = list(run)
        self.other = list(other)
        self.loop = list(loop)
        self.other_loop = list(other_loop)

    def __eq__(self, other):
        return (isinstance(other, Hidden) and self.run == other.run and self.other == other.other
                and self.loop == other.loop and self.other_loop == other.other_loop)

    def __bool__(self):
        return False

    def shows(self, machine, kind, free):
        """Whether the runs and loops have the same words, and just the first run must have such a fall."""
        check_asked(kind, free)
        if not is_walk(machine, self.run, self.loop, free) or not is_walk(machine, self.other, self.other_loop, free):
            return False
        if trace_of(self.run) != trace_of(self.other) or trace_of(self.loop) != trace_of(self.other_loop):
            return False
        return has_kind(self.run, kind) and not has_kind(self.other + self.other_loop, kind)


class Twins:
    """The places of two runs with the same trace, the second one without falls of a kind.

    A place is a pair of states, the first one higher by the number of states behind such a fall. moves has, for each
    place, triples of the place behind it and the steps of both runs, None for a run that makes none.
    """

    def __init__(self, machine, kind, free):
        self.many = len(machine)
        self._first, self._second = twin_steps(machine, kind, free)
        self.pairs, self.origins, self.moves = [(0, 0)], [None], []
        places = {(0, 0): 0}
        while len(self.moves) < len(self.pairs):
            at, moves = len(self.moves), []
            found = self._moves_from(self.pairs[at])
            for pair, step, other in found:
                if pair not in places:
                    places[pair] = len(self.pairs)
                    self.pairs.append(pair)
                    self.origins.append((at, step, other))
                moves.append((places[pair], step, other))
            self.moves.append(moves)

    def _moves_from(self, pair):
        """The moves from a pair, with pairs in the place of places."""
        one, other = pair
        moves = [((goal, other), step, None) for step, goal in self._first[one].get("", [])]
        moves.extend([((one, goal), None, step) for step, goal in self._second[other].get("", [])])
        for word, ways in self._first[one].items():
            if word:
                for step, goal in ways:
                    moves.extend([((goal, end), step, twin) for twin, end in self._second[other].get(word, [])])
        return moves

    def behind_falls(self):
        """The places whose first run has a fall of the kind."""
        return [at for at, pair in enumerate(self.pairs) if pair[0] >= self.many]

    def states_at(self, at):
        """The pair of the states at a place behind a fall."""
        return (self.pairs[at][0] - self.many, self.pairs[at][1])

    def runs_to(self, at):
        """The pair of the runs that lead to a place."""
        moves = []
        while self.origins[at] is not None:
            moves.append(self.origins[at])
            at = self.origins[at][0]
        return both_of(moves[::-1])

    def way_back(self, start, goal):
        """Moves from a place to another one that it leads to."""
        origins, queue, at = {start: None}, [start], 0
        while goal not in origins:
            place = queue[at]
            for move in self.moves[place]:
                if move[0] not in origins:
                    origins[move[0]] = (place, move)
                    queue.append(move[0])
            at += 1
        moves = []
        while origins[goal] is not None:
            goal, move = origins[goal]
            moves.append(move)
        return moves[::-1]


def twin_steps(machine, kind, free):
    """For each state, dicts from words, or nothing, to pairs of a step and its goal, for both of two twins."""
    many = len(machine)
    first, second = [{} for _ in range(2 * many)], [{} for _ in range(many)]
    for step in open_steps(machine, free):
        state, fall, seen, goal = step
        behind = goal + many if fall == kind else goal
        first[state].setdefault(seen, []).append((step, behind))
        first[state + many].setdefault(seen, []).append((step, goal + many))
        if fall != kind:
            second[state].setdefault(seen, []).append((step, goal))
    return first, second


def both_of(moves):
    """The pair of the steps that both of two runs make in some moves."""
    return [move[1] for move in moves if move[1] is not None], [move[2] for move in moves if move[2] is not None]


def shows_word(move):
    """1 if both runs show a word in a move, otherwise 0."""
    return 0 if move[1] is None or move[2] is None else 1


def components(after):
    """The numbers of the components of places, by the lists of the places behind each.

    Places lead to one another just within a component; a component leads to those with lesser numbers alone.
    """
    order, low, handled = {}, {}, [0] * len(after)
    parts, many, pending = [None] * len(after), 0, []
    for root in range(len(after)):
        walk = [] if root in order else [root]
        while walk:
            at = walk[-1]
            if at not in order:
                order[at] = low[at] = len(order)
                pending.append(at)
            if handled[at] < len(after[at]):
                goal = after[at][handled[at]]
                handled[at] += 1
                if goal not in order:
                    walk.append(goal)
                elif parts[goal] is None:
                    low[at] = min(low[at], order[goal])
                continue
            walk.pop()
            if walk:
                low[walk[-1]] = min(low[walk[-1]], low[at])
            if low[at] == order[at]:
                while parts[at] is None:
                    parts[pending.pop()] = many
                many += 1
    return parts


def told_of(twins):
    """Told or Hidden, for the places of two twins."""
    behind = twins.behind_falls()
    numbers = {at: number for number, at in enumerate(behind)}
    parts = components([[numbers[move[0]] for move in twins.moves[at]] for at in behind])
    longest = [0] * len(behind)
    for part, at in sorted([(parts[numbers[at]], at) for at in behind]):
        for move in twins.moves[at]:
            goal = parts[numbers[move[0]]]
            if goal != part:
                longest[part] = max(longest[part], longest[goal] + shows_word(move))
            elif shows_word(move):
                return hidden_at(twins, at, move)
    ranks = {twins.states_at(at): longest[parts[numbers[at]]] for at in behind}
    return Told(max(ranks.values(), default=0), ranks)


def hidden_at(twins, at, move):
    """Hidden, by a move that shows a word from a place to one that leads back to it."""
    run, other = twins.runs_to(at)
    loop, other_loop = both_of([move] + twins.way_back(move[0], at))
    return Hidden(run, other, loop, other_loop)


def has_kind(steps, kind):
    """Whether one of some steps is a fall of a kind."""
    return any([step[1] == kind for step in steps])


def is_walk(machine, run, loop, free):
    """Whether a run without barred falls can go on by a loop without such ones, in which a word is seen."""
    if not is_run(machine, run) or not trace_of(loop) or break_of(machine, end_of(run), loop) is not None:
        return False
    return loop[-1][3] == end_of(run) and all([not step[1] or step[1] in free for step in run + loop])


def check_asked(kind, free):
    """Refuse free kinds that are none, and a kind that is none of them."""
    check_free(free)
    if kind not in free:
        raise BadKinds("not one of the free kinds")


def check_about(about, free):
    """Refuse what is neither one of the free kinds nor None."""
    if about is not None and about not in free:
        raise BadKinds("not one of the free kinds")


def tells(machine, kind, free):
    """Told or Hidden: how long a fall of a free kind can stay uncertain."""
    check_asked(kind, free)
    if kind not in machine.kinds:
        return Told(0, {})
    return told_of(Twins(machine, kind, free))


def watch(machine, trace, free):
    """The dict of what is told of all free kinds behind a trace."""
    watcher = Watcher(machine, free)
    watcher.see(*trace)
    return watcher.known()


class Watcher:
    """One who sees words one by one, and can tell of the free kinds."""

    def __init__(self, machine, free, *, about=None):
        check_free(free)
        check_about(about, free)
        self.about = free[0] if about is None and free else about
        self._many, self._free, self._words = len(machine), free, []
        self._outlooks = {kind: Outlook(2 * len(machine), marked_steps(machine, kind, free)) for kind in free}
        # None stands for all runs: there may be no free kind, and words must be refused all the same.
        self._outlooks[None] = outlook_of(machine, free)
        self._now = {kind: outlook.spread([0]) for kind, outlook in self._outlooks.items()}

    def __len__(self):
        return len(self._words)

    def __iter__(self):
        return iter(self._words)

    def __call__(self, word):
        return self.see(word)[0]

    def ask(self, about):
        """Ask for a free kind, or None, from now on."""
        check_about(about, self._free)
        self.about = about

    def see(self, *words):
        """See words, all or none; the list of what is told of the kind that is asked for behind each of them."""
        now, told = self._now, []
        for word in words:
            now = {kind: self._outlooks[kind].after(states, word) for kind, states in now.items()}
            if not now[None]:
                raise NotSeen("no run has this trace")
            told.append(None if self.about is None else verdict(now[self.about], self._many))
        self._now, self._words = now, self._words + list(words)
        return told

    def known(self):
        """The dict of what is told of all free kinds now."""
        return {kind: verdict(self._now[kind], self._many) for kind in self._free}


def marked_steps(machine, kind, free):
    """Triples of steps without barred falls; states behind a fall of a kind are higher by the number of states."""
    many, steps = len(machine), []
    for state, fall, seen, goal in open_steps(machine, free):
        steps.append((state, seen, goal + many if fall == kind else goal))
        steps.append((state + many, seen, goal + many))
    return steps


def verdict(states, many):
    """What is told of a kind, when runs can be in some states, those from many on behind such a fall."""
    if states[0] >= many:
        return "certain"
    return "out" if states[-1] < many else "possible"
