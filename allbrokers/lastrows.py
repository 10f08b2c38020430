"""How many last rows an answer hangs on."""

from allbrokers.lanes import lane_to, walked
from allbrokers.merging import numbered, refined
from allbrokers.readers import are_rows, check_reader, compared


class LastRows:
    """The answer hangs on the last rows alone, by the pairs of states that are left behind more and more rows."""

    def __init__(self, number, layers):
        self.number = number
        self.layers = [list(layer) for layer in layers]

    def __eq__(self, other):
        return isinstance(other, LastRows) and self.number == other.number and self.layers == other.layers

    def __bool__(self):
        return True

    def shows(self, reader):
        """Whether the layers have just the pairs that they must, and the last one alone pairs that are the same."""
        check_reader(reader)
        if self.number < 0 or len(self.layers) != self.number + 1:
            return False
        classes, layers, layer = classes_of(reader), Layers(reader), []
        for place, told in enumerate(self.layers):
            layer = layers.behind(layer) if place else layers.first()
            if told != layer or are_same(classes, layer) != (place == self.number):
                return False
        return True


class Never:
    """Two lanes that any number of same rows can come behind, and still the answer hangs on which of both it was."""

    def __init__(self, front, other, loop, back):
        self.front = list(front)
        self.other = list(other)
        self.loop = list(loop)
        self.back = list(back)

    def __eq__(self, other):
        return (isinstance(other, Never) and self.front == other.front and self.other == other.other
                and self.loop == other.loop and self.back == other.back)

    def __bool__(self):
        return False

    def shows(self, reader):
        """Whether the loop leads both states to themselves, and the answers behind them are unlike."""
        check_reader(reader)
        lanes = [self.front, self.other, self.loop, self.back]
        if not self.loop or not all([are_rows(reader.letters, lane) for lane in lanes]):
            return False
        low, high = reader.after(self.front), reader.after(self.other)
        if reader.after(self.loop, low) != low or reader.after(self.loop, high) != high:
            return False
        return reader.answers[reader.after(self.back, low)] != reader.answers[reader.after(self.back, high)]


def last_rows(reader):
    """LastRows or Never: on how many last rows the answer hangs alone."""
    check_reader(reader)
    number, classes = rounds_to_one(reader)
    if number is None:
        return never_of(reader, classes)
    layers = Layers(reader)
    found = [layers.first()]
    while len(found) <= number:
        found.append(layers.behind(found[-1]))
    return LastRows(number, found)


def classes_of(reader):
    """For each state the number of its class, of those with the same answers behind all lanes."""
    return refined([[(letter, "", row[letter]) for letter in reader.letters] for row in reader.steps], reader.answers)


def rounds_to_one(reader):
    """After how many rows all states that lanes lead to come to one class, None if never; and the classes then.

    The classes of a round have the states that all lanes of so many rows lead to the same. Those of the next round
    are put together of them; if none are, it stays so.
    """
    states = walked(reader.letters, reader.steps)[0]
    blocks = classes_of(reader)
    number, classes = 0, {state: blocks[state] for state in states}
    many = len(set(list(classes.values())))
    while many > 1:
        rows = [tuple([classes[goal] for goal in reader.steps[state].values()]) for state in states]
        labels = numbered(rows)
        if max(labels) + 1 == many:
            return None, classes
        number, many = number + 1, max(labels) + 1
        classes = {state: label for state, label in zip(states, labels)}
    return number, classes


class Layers:
    """The layers of the pairs of unlike states to which lanes lead by the same last rows, one behind the other."""

    def __init__(self, reader):
        self._many = len(reader)
        self._states = sorted(walked(reader.letters, reader.steps)[0])
        self._columns = [[row[letter] for row in reader.steps] for letter in reader.letters]
        # Layers can have many pairs in common: each pair is made once.
        self._pairs = {}

    def first(self):
        """The ascending list of the pairs of unlike states that lanes lead to."""
        states = self._states
        return self._pairs_of([low * self._many + high for at, low in enumerate(states) for high in states[at + 1:]])

    def behind(self, layer):
        """The ascending list of the pairs of unlike states to which one row leads from pairs."""
        many, found = self._many, {}
        for goals in self._columns:
            for low, high in layer:
                one, other = goals[low], goals[high]
                if one != other:
                    found[one * many + other if one < other else other * many + one] = True
        return self._pairs_of(sorted(found))

    def _pairs_of(self, numbers):
        """The pairs of some numbers."""
        for number in numbers:
            if number not in self._pairs:
                self._pairs[number] = divmod(number, self._many)
        return [self._pairs[number] for number in numbers]


def are_same(classes, layer):
    """Whether both states of each pair are of one class."""
    return all([classes[low] == classes[high] for low, high in layer])


def never_of(reader, classes):
    """The evidence that states of unlike classes come to unlike classes again and again."""
    states, origins = walked(reader.letters, reader.steps)
    low = states[0]
    high = [state for state in states if classes[state] != classes[low]][0]
    places, loop = {}, []
    while (low, high) not in places:
        places[(low, high)] = len(loop)
        loop.append(letter_apart(reader, classes, low, high))
        low, high = reader.steps[low][loop[-1]], reader.steps[high][loop[-1]]
    front, other = lane_to(origins, states.index(low)), lane_to(origins, states.index(high))
    back = compared(reader, reader, low, high)[1]
    return Never(front, other, loop[places[(low, high)]:], back)


def letter_apart(reader, classes, low, high):
    """The first letter that leads two states to unlike classes."""
    for letter in reader.letters:
        if classes[reader.steps[low][letter]] != classes[reader.steps[high][letter]]:
            return letter
    return None
