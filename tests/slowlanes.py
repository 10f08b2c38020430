"""Plain, slow definitions of what is told of lanes, and readers, questions and rules at random."""

import itertools

from allbrokers.readers import Reader
from allbrokers.squeezing import Rule

AB = ("a", "b")
ABC = ("a", "b", "c")
TWELVE = tuple("abcdefghijkl")


def lanes(letters, most, least=0):
    """All lanes of at most so many rows, shorter ones first, then as lists."""
    for length in range(least, most + 1):
        yield from map(list, itertools.product(letters, repeat=length))


def some_reader(rng, most=5, letters=AB, answers=("y", "n")):
    many = rng.randint(1, most)
    steps = [{letter: rng.randrange(many) for letter in letters} for _ in range(many)]
    return Reader(letters, steps, [rng.choice(answers) for _ in range(many)])


def some_rule(rng, most=4, letters=AB, part=0.4):
    many = rng.randint(1, most)
    steps = [{letter: rng.randrange(many) for letter in letters} for _ in range(many)]
    pairs = [(state, letter) for state in range(many) for letter in letters]
    return Rule(letters, steps, [pair for pair in pairs if rng.random() < part])


def some_of(rng, letters):
    return tuple(sorted(rng.sample(letters, rng.randint(1, len(letters)))))


def plain_question(rng, letters, head=None):
    head = head or rng.choice(["last", "seen", "since", "just", "count", "turns"])
    if head in ("last", "seen"):
        return (head, some_of(rng, letters))
    if head == "since":
        return (head, some_of(rng, letters), some_of(rng, letters))
    if head == "turns":
        number = rng.randint(2, 9)
        return (head, some_of(rng, letters), number, rng.randrange(number))
    return (head, some_of(rng, letters), rng.randint(1, 5 if head == "just" else 9))


def some_question(rng, letters, depth):
    if depth <= 1 or rng.random() < 0.3:
        return plain_question(rng, letters)
    head = rng.choice(["not", "both", "either"])
    if head == "not":
        return (head, some_question(rng, letters, depth - 1))
    return (head, tuple(some_question(rng, letters, depth - 1) for _ in range(rng.randint(2, 3))))


def slow_holds(question, lane):
    """A question by the words of [20], by going over all rows."""
    head = question[0]
    if head == "not":
        return not slow_holds(question[1], lane)
    if head == "both":
        return all(slow_holds(part, lane) for part in question[1])
    if head == "either":
        return any(slow_holds(part, lane) for part in question[1])
    some = question[1]
    if head == "last":
        return bool(lane) and lane[-1] in some
    if head == "seen":
        return any(row in some for row in lane)
    if head == "since":
        places = [place for place, row in enumerate(lane) if row in some]
        return bool(places) and not any(row in question[2] for row in lane[places[-1] + 1:])
    number = question[2]
    if head == "just":
        return len(lane) >= number and all(row in some for row in lane[len(lane) - number:])
    many = len([row for row in lane if row in some])
    return many >= number if head == "count" else many % number == question[3]


def product_of_question(question):
    """The number of [20] for the questions without questions in it, multiplied."""
    if question[0] == "not":
        return product_of_question(question[1])
    if question[0] in ("both", "either"):
        found = 1
        for part in question[1]:
            found *= product_of_question(part)
        return found
    if question[0] in ("just", "count"):
        return question[2] + 1
    return question[2] if question[0] == "turns" else 2


def led(reader, lane, state=0):
    for row in lane:
        state = reader.steps[state][row]
    return state


def reached_states(reader, letters=None):
    """The states that some lane leads to, in the order of the first lanes to them; and these lanes."""
    found = {}
    for lane in itertools.chain.from_iterable([lanes(letters or reader.letters, len(reader) - 1)]):
        found.setdefault(led(reader, lane), lane)
    return list(found), list(found.values())


def slow_view(reader, states, lane):
    return tuple(reader.answers[led(reader, lane, state)] for state in states)


def slow_kept(rule, lane):
    """The places of the rows that are kept, each by a reading of its own of all rows behind it."""
    return [place for place, row in enumerate(lane) if (led(rule, lane[:place:-1]), row) not in rule.drops]


def slow_squeezed(rule, lane):
    return [lane[place] for place in slow_kept(rule, lane)]


def drops_front(rule, lane):
    """Whether a rule drops the first row of a lane."""
    return 0 not in slow_kept(rule, lane)


def slow_rule(letters, is_dropped, many):
    """The least rule that drops the first rows of lanes as told, if it has at most so many states.

    States are lanes read from the end that differ by what is dropped in front of them, with up to so many rows between.
    """
    tails = list(lanes(letters, many))

    def view(lane):
        return tuple(is_dropped([letter] + tail + lane) for tail in tails for letter in letters)

    found, steps = [[]], []
    numbers = {view([]): 0}
    for lane in found:
        row = {}
        for letter in letters:
            key = view([letter] + lane)
            if key not in numbers:
                numbers[key] = len(found)
                found.append([letter] + lane)
            row[letter] = numbers[key]
        steps.append(row)
    drops = [(place, letter) for place, lane in enumerate(found) for letter in letters if is_dropped([letter] + lane)]
    return Rule(letters, steps, drops)
