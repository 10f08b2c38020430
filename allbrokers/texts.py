"""Texts of machines and of settings, written and read."""

from allbrokers.checks import is_word
from allbrokers.errors import BadText
from allbrokers.links import Link
from allbrokers.machines import MOST_STATES, Machine
from allbrokers.routes import Route
from allbrokers.words import DIGITS, Words

MOST_DIGITS = 6


def write_machine(machine):
    """The text of a machine: its number of states, and a line for each step."""
    lines = [f"states {len(machine)}"]
    for state, kind, seen, goal in machine.steps:
        words = [str(state), f"!{kind}" if kind else "", seen, "->", str(goal)]
        lines.append(" ".join([word for word in words if word]))
    return "".join([line + "\n" for line in lines])


def write_settings(part):
    """The text of the settings of a route or a link."""
    head = "link" if isinstance(part, Link) else "route"
    told = [f"{name} = {value_text(value)}" for name, value in part.settings().items()]
    return head + ": " + ", ".join(told) + "\n"


def value_text(value):
    """The text of the value of a setting."""
    if isinstance(value, bool):
        return "yes" if value else "no"
    return "all" if value is None else str(value)


def read_machine(text):
    """The machine of a text."""
    lines = lines_of(text)
    lines[0].take("states")
    many = lines[0].take_number(1, MOST_STATES)
    lines[0].take_end()
    return Machine(many, [read_step(line, many) for line in lines[1:]])


def read_step(line, many):
    """The step of a line, between states less than their number."""
    state = line.take_number(0, many - 1)
    kind, seen = "", ""
    if line.word() == "!":
        line.take("!")
        kind = line.take_name()
    if line.word() != "->":
        seen = line.take_name()
    line.take("->")
    goal = line.take_number(0, many - 1)
    line.take_end()
    return (state, kind, seen, goal)


def read_settings(text):
    """The route or the link of a text."""
    lines = lines_of(text)
    line, head = lines[0], lines[0].word()
    if head not in ("route", "link"):
        line.refuse()
    line.take(head)
    line.take(":")
    values = Link().settings() if head == "link" else Route().settings()
    told = {}
    if line.word() != "":
        read_setting(line, values, told)
    while line.word() == ",":
        line.take(",")
        read_setting(line, values, told)
    line.take_end()
    if len(lines) > 1:
        lines[1].refuse()
    return Link(**told) if head == "link" else Route(**told)


def read_setting(line, values, told):
    """Read a setting that is not told yet into a dict; values has for each setting one of its values."""
    name = line.word()
    if name not in values or name in told:
        line.refuse()
    line.take(name)
    line.take("=")
    told[name] = read_value(line, values[name])


def read_value(line, like):
    """Read a value of the kind of another one."""
    if isinstance(like, bool):
        is_set = line.word() == "yes"
        line.take("yes" if is_set else "no")
        return is_set
    if isinstance(like, str):
        return line.take_name()
    if line.word() == "all":
        line.take("all")
        return None
    return line.take_number(0, 9)


def lines_of(text):
    """The list of the lines of a text that are not left out, at least one."""
    if not isinstance(text, str):
        raise BadText(0, 0)
    rows = text.split("\n")
    lines = [Line(place + 1, row) for place, row in enumerate(rows)]
    found = [line for line in lines if line.word() != ""]
    if not found:
        raise BadText(len(rows), 1)
    return found


class Line(Words):
    """A line of a text, without its remark."""

    def __init__(self, place, text):
        super().__init__(place, text.partition("#")[0], len(text) + 1)

    def take_name(self):
        """Take a word of 1 to 8 letters."""
        return self.take_if(is_word(self.word()))

    def take_number(self, low, high):
        """Take a number from low to high."""
        digits = self.word()
        return int(self.take_if(is_numeral(digits) and low <= int(digits) <= high))


def is_numeral(word):
    """Whether a word is a number with at most six digits, without a 0 in front of another one."""
    if not word or word[0] not in DIGITS or len(word) > MOST_DIGITS:
        return False
    return word == "0" or word[0] != "0"
