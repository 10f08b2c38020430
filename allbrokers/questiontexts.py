"""Texts of questions on lanes, written and read."""

from allbrokers.errors import BadText
from allbrokers.questions import GREATEST, MOST_DEPTH, check_question, is_question
from allbrokers.readererrors import BadQuestion
from allbrokers.readers import are_letters
from allbrokers.words import DIGITS, Words

LANGUAGE = ("last", "seen", "since", "just", "count", "not", "and", "or", "is", "mod")


def write_question(letters, question):
    """The text of a question."""
    check_letters(letters)
    check_question(letters, question)
    return written(question)


def read_question(letters, text):
    """The question of a text."""
    check_letters(letters)
    if not isinstance(text, str):
        raise BadText(0, 0)
    question = Reading(letters, text).whole()
    if not is_question(letters, question):
        raise BadText(0, 0)
    return question


def check_letters(letters):
    """Refuse what are no letters, and a letter that is a word of the language."""
    if not are_letters(letters):
        raise BadQuestion("not letters")
    if any([word in letters for word in LANGUAGE]):
        raise BadQuestion("a letter is a word of the language")


def written(question):
    """The text of what is known to be a question."""
    head = question[0]
    if head == "not":
        return "not " + enclosed(question[1], ("both", "either"))
    if head == "both":
        return " and ".join([enclosed(part, ("both", "either")) for part in question[1]])
    if head == "either":
        return " or ".join([enclosed(part, ("either",)) for part in question[1]])
    some = "|".join(question[1])
    if head == "since":
        return some + " since " + "|".join(question[2])
    if head == "turns":
        return f"count {some} mod {question[2]} is {question[3]}"
    return f"{head} {question[2]} {some}" if head in ("just", "count") else f"{head} {some}"


def enclosed(question, heads):
    """The text of a question, in parentheses if it is one of some kinds."""
    return f"({written(question)})" if question[0] in heads else written(question)


class Reading(Words):
    """The reading of a text on some letters."""

    def __init__(self, letters, text):
        super().__init__(1, text, len(text) + 1)
        self._letters = letters
        self.refuse_other_signs("|()")

    def whole(self):
        """The question of the whole text."""
        question = self._any_of(0)
        self.take_end()
        return question

    def _any_of(self, depth):
        """Questions with `or` between, within so many nots and parentheses."""
        parts = [self._all_of(depth)]
        while self.word() == "or":
            self.take("or")
            parts.append(self._all_of(depth))
        return parts[0] if len(parts) == 1 else ("either", tuple(parts))

    def _all_of(self, depth):
        """Questions with `and` between."""
        parts = [self._single(depth)]
        while self.word() == "and":
            self.take("and")
            parts.append(self._single(depth))
        return parts[0] if len(parts) == 1 else ("both", tuple(parts))

    def _single(self, depth):
        """A question without `and` and `or` outside of parentheses."""
        word = self.word()
        if word not in ("not", "("):
            return self._plain()
        if depth == MOST_DEPTH:
            self.refuse()
        self.take(word)
        if word == "not":
            return ("not", self._single(depth + 1))
        question = self._any_of(depth + 1)
        self.take(")")
        return question

    def _plain(self):
        """A question without questions in it."""
        word = self.word()
        if word not in ("last", "seen", "just", "count"):
            some = self._some()
            self.take("since")
            return ("since", some, self._some())
        self.take(word)
        if word == "count" and self.word() in self._letters:
            return self._turns()
        if word in ("just", "count"):
            number = self._number(1, GREATEST[word])
            return (word, self._some(), number)
        return (word, self._some())

    def _turns(self):
        """The rest of a question of turns, behind its first word."""
        some = self._some()
        self.take("mod")
        number = self._number(2, GREATEST["turns"])
        self.take("is")
        return ("turns", some, number, self._number(0, number - 1))

    def _some(self):
        """Letters with `|` between, each once."""
        found = [self._letter([])]
        while self.word() == "|":
            self.take("|")
            found.append(self._letter(found))
        return tuple(sorted(found))

    def _letter(self, others):
        """A letter that is none of others."""
        word = self.word()
        return self.take_if(word in self._letters and word not in others)

    def _number(self, low, high):
        """A number of one figure, from one to another."""
        word = self.word()
        return int(self.take_if(len(word) == 1 and word in DIGITS and low <= int(word) <= high))
