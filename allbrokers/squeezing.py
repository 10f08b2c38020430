"""Rules that drop rows of a lane by what comes behind them, and what a reader sees of them."""

from allbrokers.checks import is_number
from allbrokers.lanes import first_lane, lane_to, walked
from allbrokers.readererrors import BadLane, BadRule
from allbrokers.readers import are_letters, are_rows, are_steps, check_reader


class Rule:
    """A rule that reads a lane from its end, and drops rows by the state behind which they stand."""

    def __init__(self, letters, steps, drops):
        if not are_letters(letters) or not are_steps(letters, steps) or not are_drops(letters, len(steps), drops):
            raise BadRule("not a rule")
        self.letters = tuple(letters)
        self.steps = [{letter: row[letter] for letter in letters} for row in steps]
        self.drops = sorted(set(drops))
        self._dropped = {pair: True for pair in self.drops}

    def __eq__(self, other):
        return (isinstance(other, Rule) and self.letters == other.letters and self.steps == other.steps
                and self.drops == other.drops)

    def drops_at(self, state, letter):
        """Whether a row that stands behind a state is dropped."""
        return (state, letter) in self._dropped

    def kept(self, lane):
        """The ascending list of the places of the rows of a lane that are kept."""
        if not are_rows(self.letters, lane):
            raise BadLane("not a lane of the letters of the rule")
        places, state = [], 0
        for place in range(len(lane) - 1, -1, -1):
            if not self.drops_at(state, lane[place]):
                places.append(place)
            state = self.steps[state][lane[place]]
        return places[::-1]

    def squeezed(self, lane):
        """The list of the rows of a lane that are kept."""
        return [lane[place] for place in self.kept(lane)]


def are_drops(letters, many, drops):
    """Whether a value is a list or tuple of pairs of one of so many states and a letter."""
    return isinstance(drops, (list, tuple)) and all([is_drop(letters, many, pair) for pair in drops])


def is_drop(letters, many, pair):
    """Whether a value is a pair of one of so many states and a letter."""
    if not isinstance(pair, tuple) or len(pair) != 2:
        return False
    return is_number(pair[0]) and pair[0] < many and isinstance(pair[1], str) and pair[1] in letters


class Views:
    """The views of lanes for a reader, numbered from 0, that of the empty lane, in the order in which they are met.

    found is the list of the views; states are those that lanes lead to, in the order of the first lanes to them.
    """

    def __init__(self, reader):
        self.states, self._origins = walked(reader.letters, reader.steps)
        places = {state: place for place, state in enumerate(self.states)}
        self._goals = {}
        for letter in reader.letters:
            self._goals[letter] = [places[reader.steps[state][letter]] for state in self.states]
        first = tuple([reader.answers[state] for state in self.states])
        self.found, self.numbers, self._in_front = [first], {first: 0}, [{}]

    def in_front(self, number, letter):
        """The number of the view of a row in front of lanes with a view."""
        known = self._in_front[number]
        if letter not in known:
            view = self.found[number]
            known[letter] = self._number_of(tuple([view[goal] for goal in self._goals[letter]]))
        return known[letter]

    def _number_of(self, view):
        """The number of a view, a new one for a new view."""
        if view not in self.numbers:
            self.numbers[view] = len(self.found)
            self.found.append(view)
            self._in_front.append({})
        return self.numbers[view]

    def first_front(self, one, other):
        """The first lane to a state behind which two views are unlike."""
        places = [place for place, pair in enumerate(zip(self.found[one], self.found[other])) if pair[0] != pair[1]]
        return lane_to(self._origins, places[0])


class Unseen:
    """A reader sees nothing of a rule, by triples of a state of the rule and two equal views."""

    def __init__(self, triples):
        self.triples = list(triples)

    def __eq__(self, other):
        return isinstance(other, Unseen) and self.triples == other.triples

    def __bool__(self):
        return True

    def shows(self, rule, reader):
        """Whether there are the first triple and all behind the triples, each with equal views of lanes."""
        check_asked(rule, reader)
        views = Views(reader)
        if gone_through(rule, views)[1] is not None:
            return False
        known = {}
        for state, one, other in self.triples:
            if not 0 <= state < len(rule.steps) or one not in views.numbers or one != other:
                return False
            known[(state, views.numbers[one], views.numbers[one])] = True
        if (0, 0, 0) not in known:
            return False
        goals = [node_in_front(rule, views, node, letter) for node in known for letter in rule.letters]
        return all([goal in known for goal in goals])


class Seen:
    """Two lanes so that the answer behind both is unlike, with the second one squeezed or not."""

    def __init__(self, front, lane):
        self.front = list(front)
        self.lane = list(lane)

    def __eq__(self, other):
        return isinstance(other, Seen) and self.front == other.front and self.lane == other.lane

    def __bool__(self):
        return False

    def shows(self, rule, reader):
        """Whether the answers are unlike."""
        check_asked(rule, reader)
        if not are_rows(rule.letters, self.front) or not are_rows(rule.letters, self.lane):
            return False
        return reader.answer(self.front + self.lane) != reader.answer(self.front + rule.squeezed(self.lane))


def check_rule(rule):
    """Refuse what is no rule."""
    if not isinstance(rule, Rule):
        raise BadRule("not a rule")


def check_asked(rule, reader):
    """Refuse what are no rule and no reader, or not of the same letters."""
    check_rule(rule)
    check_reader(reader)
    if rule.letters != reader.letters:
        raise BadRule("a rule of other letters than the reader")


def node_in_front(rule, views, node, letter):
    """The triple of the rule's state and the numbers of two views to which a row in front leads from one."""
    state, whole, squeezed = node
    if not rule.drops_at(state, letter):
        squeezed = views.in_front(squeezed, letter)
    return rule.steps[state][letter], views.in_front(whole, letter), squeezed


def gone_through(rule, views):
    """The triples that lanes come to, with numbers of views, and the first lane with unlike views, or None."""
    return first_lane(
        rule.letters, (0, 0, 0), lambda node, letter: node_in_front(rule, views, node, letter),
        lambda node, letter: has_unlike(node_in_front(rule, views, node, letter)))


def has_unlike(node):
    """Whether a triple has two unlike views."""
    return node[1] != node[2]


def judge_rule(rule, reader):
    """Unseen or Seen: whether a reader sees nothing of a rule."""
    check_asked(rule, reader)
    views = Views(reader)
    nodes, lane = gone_through(rule, views)
    if lane is None:
        return Unseen([(state, views.found[whole], views.found[squeezed]) for state, whole, squeezed in nodes])
    return Seen(views.first_front(view_of(views, lane), view_of(views, rule.squeezed(lane))), lane)


def view_of(views, lane):
    """The number of the view of a lane."""
    number = 0
    for row in lane[::-1]:
        number = views.in_front(number, row)
    return number
