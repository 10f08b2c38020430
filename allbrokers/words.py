"""The words of a line of a text, which are taken one by one."""

from allbrokers.errors import BadText

LETTERS = "abcdefghijklmnopqrstuvwxyz"
DIGITS = "0123456789"


class Words:
    """The words of a line, numbered by its place in the text; behind the last one it ends, at a column."""

    def __init__(self, place, text, end):
        self._place = place
        self._columns, self._words = divided(text)
        # Behind the last word the line ends too early, for whoever wants another one.
        self._columns.append(end)
        self._words.append("")
        self._at = 0

    def word(self):
        """The next word, or sign that is none; the empty text behind the last one."""
        return self._words[self._at]

    def refuse(self):
        """Raise the error that the next word does not fit."""
        raise BadText(self._place, self._columns[self._at])

    def refuse_other_signs(self, signs):
        """Raise the error for the first sign that is no part of a word, and none of these."""
        for column, word in zip(self._columns, self._words):
            if word and word[0] not in LETTERS and word[0] not in DIGITS and word[0] not in signs:
                raise BadText(self._place, column)

    def take_if(self, is_right):
        """Take the next word, which must be right."""
        word = self.word()
        if not is_right:
            self.refuse()
        self._at += 1
        return word

    def take(self, word):
        """Take the next word, which must be this one."""
        self.take_if(self.word() == word)

    def take_end(self):
        """Refuse a word behind the last one that fits."""
        if self.word() != "":
            self.refuse()


def divided(text):
    """The columns and the words of a text, blanks left out; a sign that is no word stands for itself."""
    columns, words, at = [], [], 0
    while at < len(text):
        behind = end_of_word(text, at)
        if text[at] != " ":
            columns.append(at + 1)
            words.append(text[at:behind])
        at = behind
    return columns, words


def end_of_word(text, at):
    """The place behind the word, or the sign, that begins at a place."""
    if text[at:at + 2] == "->":
        return at + 2
    for signs in (LETTERS, DIGITS):
        if text[at] in signs:
            while at < len(text) and text[at] in signs:
                at += 1
            return at
    return at + 1
