"""Readers of lanes: which state a lane leads to, and with which answer."""

from allbrokers.checks import is_ascending, is_number, is_word
from allbrokers.lanes import lane_to, least_steps
from allbrokers.readererrors import BadLane, BadReader

MOST_LETTERS = 12
MOST_STATES = 1000


class Reader:
    """A reader of lanes of letters, with states from 0 that have answers."""

    def __init__(self, letters, steps, answers):
        if not are_letters(letters) or not are_steps(letters, steps) or not are_answers(answers, len(steps)):
            raise BadReader("not a reader")
        self.letters = tuple(letters)
        self.steps = [{letter: row[letter] for letter in letters} for row in steps]
        self.answers = list(answers)

    def __eq__(self, other):
        return (isinstance(other, Reader) and self.letters == other.letters and self.steps == other.steps
                and self.answers == other.answers)

    def __len__(self):
        return len(self.answers)

    def __call__(self, lane):
        return self.answer(lane)

    def after(self, lane, state=0):
        """The state behind a lane that is read from a state."""
        check_lane(self, lane, state)
        return state_after(self.steps, lane, state)

    def answer(self, lane):
        """The answer behind a lane."""
        return self.answers[self.after(lane)]


def are_letters(letters):
    """Whether a value is an ascending tuple of 1 to 12 words."""
    if not isinstance(letters, tuple) or not 1 <= len(letters) <= MOST_LETTERS:
        return False
    return all([is_word(letter) for letter in letters]) and is_ascending(letters)


def are_steps(letters, steps):
    """Whether a value is a list or tuple of dicts from all letters to its places."""
    if not isinstance(steps, (list, tuple)) or not 1 <= len(steps) <= MOST_STATES:
        return False
    return all([is_row(letters, row, len(steps)) for row in steps])


def is_row(letters, row, many):
    """Whether a value is a dict from all letters to states less than a number."""
    if not isinstance(row, dict) or len(row) != len(letters):
        return False
    return all([letter in row and is_number(row[letter]) and row[letter] < many for letter in letters])


def are_answers(answers, many):
    """Whether a value is a list or tuple of so many words."""
    if not isinstance(answers, (list, tuple)) or len(answers) != many:
        return False
    return all([is_word(answer) for answer in answers])


def are_rows(letters, lane):
    """Whether a value is a lane of letters."""
    return isinstance(lane, (list, tuple)) and all([row in letters for row in lane])


def check_lane(reader, lane, state):
    """Refuse what is no lane of a reader, and no state."""
    if not are_rows(reader.letters, lane) or not is_number(state) or state >= len(reader):
        raise BadLane("not a lane of the letters of the reader, from one of its states")


def state_after(steps, lane, state):
    """The state behind a lane, from a state on, by steps that are known to be such."""
    for row in lane:
        state = steps[state][row]
    return state


def behind_rows(reader, lane, /, *, state=0):
    """Generate the states behind the rows of a lane, one after the other."""
    check_reader(reader)
    check_lane(reader, lane, state)
    for row in list(lane):
        state = reader.steps[state][row]
        yield state


def check_reader(reader):
    """Refuse what is no reader."""
    if not isinstance(reader, Reader):
        raise BadReader("not a reader")


def check_readers(one, other):
    """Refuse what are not two readers of the same letters."""
    check_reader(one)
    check_reader(other)
    if one.letters != other.letters:
        raise BadReader("not readers of the same letters")


def least(reader):
    """The reader with the same answers and as few states as can be, in the order of the first lanes to them."""
    check_reader(reader)
    return least_made(reader.letters, reader.steps, reader.answers)


def least_made(letters, steps, answers):
    """The least reader that has the same answers as one with these steps and answers, of whatever number."""
    rows, states = least_steps(letters, steps, answers)
    return Reader(letters, rows, [answers[state] for state in states])


class Alike:
    """Two readers have the same answer for each lane, by pairs of states."""

    def __init__(self, pairs):
        self.pairs = list(pairs)

    def __eq__(self, other):
        return isinstance(other, Alike) and self.pairs == other.pairs

    def __bool__(self):
        return True

    def shows(self, one, other):
        """Whether the pairs have both first states, the same answers, and all pairs behind them."""
        check_readers(one, other)
        if not all([0 <= low < len(one) and 0 <= high < len(other) for low, high in self.pairs]):
            return False
        if not all([one.answers[low] == other.answers[high] for low, high in self.pairs]):
            return False
        known = {low * len(other) + high: True for low, high in self.pairs}
        if 0 not in known:
            return False
        for low, high in self.pairs:
            if not all([goal in known for goal in goals_of(one.steps[low], other.steps[high], len(other))]):
                return False
        return True


class Apart:
    """Two readers have unlike answers for a lane."""

    def __init__(self, lane):
        self.lane = list(lane)

    def __eq__(self, other):
        return isinstance(other, Apart) and self.lane == other.lane

    def __bool__(self):
        return False

    def shows(self, one, other):
        """Whether the answers for the lane are unlike."""
        check_readers(one, other)
        return are_rows(one.letters, self.lane) and one.answer(self.lane) != other.answer(self.lane)


def goals_of(low_row, high_row, many):
    """For each letter the number of the pair to which it leads two states; many is that of the second states."""
    return [low_row[letter] * many + high_row[letter] for letter in low_row]


def judge_alike(one, other):
    """Alike or Apart: whether two readers have the same answer for each lane."""
    check_readers(one, other)
    pairs, lane = compared(one, other, 0, 0)
    return Alike(pairs) if lane is None else Apart(lane)


def compared(one, other, low, high):
    """The pairs to which lanes lead from states of two readers, and the first lane with unlike answers, or None."""
    many = len(other)
    queue, origins, at = [low * many + high], [None], 0
    known = {queue[0]: True}
    while at < len(queue):
        low, high = divmod(queue[at], many)
        if one.answers[low] != other.answers[high]:
            return [], lane_to(origins, at)
        goals = goals_of(one.steps[low], other.steps[high], many)
        for letter, goal in zip(one.letters, goals):
            if goal not in known:
                known[goal] = True
                queue.append(goal)
                origins.append((at, letter))
        at += 1
    return [divmod(pair, many) for pair in queue], None
