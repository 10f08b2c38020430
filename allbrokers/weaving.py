"""Whether the answer hangs on how two lanes are woven into one."""

from allbrokers.checks import is_ascending
from allbrokers.lanes import walked
from allbrokers.merging import refined
from allbrokers.readererrors import BadLane
from allbrokers.readers import are_rows, check_reader


class Woven:
    """The answer is the same behind all weavings, by pairs of states behind two letters in both orders."""

    def __init__(self, pairs):
        self.pairs = list(pairs)

    def __eq__(self, other):
        return isinstance(other, Woven) and self.pairs == other.pairs

    def __bool__(self):
        return True

    def shows(self, reader, ones, others):
        """Whether the pairs are those behind both orders, and all behind these, with the same answers."""
        check_asked(reader, ones, others)
        many = len(reader)
        if not all([0 <= low < many and 0 <= high < many for low, high in self.pairs]):
            return False
        if not all([reader.answers[low] == reader.answers[high] for low, high in self.pairs]):
            return False
        known = {low * many + high: True for low, high in self.pairs}
        if not all([pair in known for pair in swapped_pairs(reader, ones, others)]):
            return False
        for letter in ones + others:
            goals = [row[letter] for row in reader.steps]
            if not all([goals[low] * many + goals[high] in known for low, high in self.pairs]):
                return False
        return True


class Unwoven:
    """Two weavings that differ in the order of two letters alone, with unlike answers."""

    def __init__(self, front, one, other, back):
        self.front = list(front)
        self.one = one
        self.other = other
        self.back = list(back)

    def __eq__(self, other):
        return (isinstance(other, Unwoven) and self.front == other.front and self.one == other.one
                and self.other == other.other and self.back == other.back)

    def __bool__(self):
        return False

    def weavings(self):
        """The list of both weavings."""
        return [self.front + [self.one, self.other] + self.back, self.front + [self.other, self.one] + self.back]

    def shows(self, reader, ones, others):
        """Whether the answers behind both weavings are unlike."""
        check_asked(reader, ones, others)
        if not are_rows(ones + others, self.front) or not are_rows(ones + others, self.back):
            return False
        if self.one not in ones or self.other not in others:
            return False
        first, second = self.weavings()
        return reader.answer(first) != reader.answer(second)


def check_asked(reader, ones, others):
    """Refuse what is no reader, and what are no two tuples of its letters that have none in common."""
    check_reader(reader)
    for some in (ones, others):
        if not isinstance(some, tuple) or not some or not are_rows(reader.letters, some) or not is_ascending(some):
            raise BadLane("not an ascending tuple of letters of the reader")
    if any([letter in others for letter in ones]):
        raise BadLane("a letter in both")


def judge_weaving(reader, ones, others):
    """Woven or Unwoven: whether the answer is the same behind all weavings of any two lanes."""
    check_asked(reader, ones, others)
    letters = tuple(sorted(ones + others))
    blocks = refined([[(letter, "", row[letter]) for letter in letters] for row in reader.steps], reader.answers)
    many, pairs = len(reader), swapped_pairs(reader, ones, others)
    if any([blocks[pair // many] != blocks[pair - pair // many * many] for pair in pairs]):
        return Search(reader, ones, others, blocks).evidence()
    return Woven([divmod(pair, many) for pair in closed_pairs(reader, letters, pairs)])


def swapped_pairs(reader, ones, others):
    """The pairs, as numbers, of the states behind a letter of ones and one of others, and the other way round."""
    letters, many = tuple(sorted(ones + others)), len(reader)
    steps, found = reader.steps, {}
    for state in walked(letters, reader.steps)[0]:
        for one in ones:
            for other in others:
                found[steps[steps[state][one]][other] * many + steps[steps[state][other]][one]] = True
    return list(found)


def closed_pairs(reader, letters, pairs):
    """Some pairs, as numbers, and all to which lanes of some letters lead from them."""
    many, queue, at = len(reader), list(pairs), 0
    known = {pair: True for pair in pairs}
    rows = [[row[letter] for letter in letters] for row in reader.steps]
    while at < len(queue):
        low, high = divmod(queue[at], many)
        for one, other in zip(rows[low], rows[high]):
            goal = one * many + other
            if goal not in known:
                known[goal] = True
                queue.append(goal)
        at += 1
    return queue


class Search:
    """The search for the first weaving, by places that lanes lead to.

    A place is a state alone in front of the two letters, a state and the first one of these letters between both, and a
    pair of states, with True, behind both. Places with the same first lane make one group, since a letter can belong to
    the front, or be the first one of both: then groups that are met first have the first lanes.
    """

    def __init__(self, reader, ones, others, blocks):
        self._reader, self._ones, self._others, self._blocks = reader, ones, others, blocks
        self._letters = tuple(sorted(ones + others))
        # For each place the place ahead of it and the letter between.
        self._origins = {(0,): None}

    def evidence(self):
        """The evidence with the first weaving."""
        groups, at = [[(0,)]], 0
        while True:
            for letter in self._letters:
                group = self._group_behind(groups[at], letter)
                for place in group:
                    if self._is_unlike(place):
                        return self._evidence_at(place)
                if group:
                    groups.append(group)
            at += 1

    def _group_behind(self, group, letter):
        """The new places to which a letter leads from those of a group."""
        found = []
        for place in group:
            for goal in self._goals(place, letter):
                if goal not in self._origins:
                    self._origins[goal] = (place, letter)
                    found.append(goal)
        return found

    def _goals(self, place, letter):
        """The places to which a letter leads from one."""
        steps = self._reader.steps
        if len(place) == 1:
            goals = [(steps[place[0]][letter],)]
            return goals + [(place[0], letter)] if letter in self._ones else goals
        if len(place) == 3:
            goal = (steps[place[0]][letter], steps[place[1]][letter], True)
        elif letter in self._others:
            state, one = place
            goal = (steps[steps[state][one]][letter], steps[steps[state][letter]][one], True)
        else:
            return []
        # States of one class have the same answers behind all lanes: such a pair leads to nothing.
        return [] if self._blocks[goal[0]] == self._blocks[goal[1]] else [goal]

    def _is_unlike(self, place):
        """Whether a place is a pair of states with unlike answers."""
        return len(place) == 3 and self._reader.answers[place[0]] != self._reader.answers[place[1]]

    def _evidence_at(self, place):
        """The evidence of the weaving that leads to a place."""
        lane, split = [], 0
        while self._origins[place] is not None:
            place, letter = self._origins[place]
            lane.append(letter)
            if len(place) == 2:
                split = len(lane)
        lane = lane[::-1]
        middle = len(lane) - split
        return Unwoven(lane[:middle - 1], lane[middle - 1], lane[middle], lane[middle + 1:])
