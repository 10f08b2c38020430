"""Questions on lanes: whether they hold, and the least reader that answers them."""

from allbrokers.checks import is_ascending, is_number
from allbrokers.lanes import spread_steps
from allbrokers.readererrors import BadLane, BadQuestion
from allbrokers.readers import are_letters, are_rows, least_made

MOST_DEPTH = 20
MOST_QUESTIONS = 8
# The length of each kind of question without questions in it, and the greatest number in it.
LENGTHS = {"last": 2, "seen": 2, "since": 3, "just": 3, "count": 3, "turns": 4}
GREATEST = {"just": 5, "count": 9, "turns": 9}


def holds(letters, question, lane):
    """Whether a question holds for a lane."""
    check_question(letters, question)
    if not are_rows(letters, lane):
        raise BadLane("not a lane of the letters")
    return is_so(question, lambda plain: is_true(plain, count_of(plain, lane)))


def reader_of(letters, questions):
    """The least reader whose answers have y for each question that holds, and n for each other one."""
    check_questions(letters, questions)
    plains = plains_of(questions)
    nodes, steps = spread_steps(letters, (0,) * len(plains), lambda counts, row: counts_behind(plains, counts, row))
    return least_made(letters, steps, [answer_at(questions, plains, counts) for counts in nodes])


def counts_behind(plains, counts, row):
    """What is counted for some questions, behind one more row."""
    return tuple([count_behind(plain, count, row) for plain, count in zip(plains, counts)])


def answer_at(questions, plains, counts):
    """The answer to some questions, by what is counted for those without questions in them."""
    truth = {plain: is_true(plain, count) for plain, count in zip(plains, counts)}
    return "".join(["y" if is_so(question, lambda part: truth[part]) else "n" for question in questions])


def are_some(letters, some):
    """Whether a value is an ascending tuple of some letters, at least one."""
    if not isinstance(some, tuple) or not some or not all([letter in letters for letter in some]):
        return False
    return is_ascending(some)


def is_between(value, low, high):
    """Whether a value is an integer from one to another."""
    return is_number(value) and low <= value <= high


def is_question(letters, question):
    """Whether a value is a question on letters, not nested too deep."""
    layer, depth = [question], 0
    while layer:
        depth += 1
        if depth > MOST_DEPTH or not all([is_question_outside(letters, part) for part in layer]):
            return False
        layer = [inner for part in layer for inner in inner_of(part)]
    return True


def is_question_outside(letters, question):
    """Whether a value is a question as far as can be seen without a look at the questions in it."""
    if not isinstance(question, tuple) or not question or not isinstance(question[0], str):
        return False
    head = question[0]
    if head == "not":
        return len(question) == 2
    if head in ("both", "either"):
        return len(question) == 2 and isinstance(question[1], tuple) and len(question[1]) >= 2
    if len(question) != LENGTHS.get(head, 0) or not are_some(letters, question[1]):
        return False
    if head == "since":
        return are_some(letters, question[2])
    if head == "turns":
        return is_between(question[2], 2, GREATEST[head]) and is_between(question[3], 0, question[2] - 1)
    return head in ("last", "seen") or is_between(question[2], 1, GREATEST[head])


def inner_of(question):
    """The questions that stand directly in a question."""
    if question[0] == "not":
        return [question[1]]
    return list(question[1]) if question[0] in ("both", "either") else []


def check_question(letters, question):
    """Refuse what are no letters, and no question on them."""
    if not are_letters(letters) or not is_question(letters, question):
        raise BadQuestion("not letters and a question on them")


def check_questions(letters, questions):
    """Refuse what are no letters, and no list of questions on them."""
    if not are_letters(letters) or not isinstance(questions, (list, tuple)):
        raise BadQuestion("not letters and a list of questions")
    # More would give an answer that is no word.
    if not 1 <= len(questions) <= MOST_QUESTIONS or not all([is_question(letters, part) for part in questions]):
        raise BadQuestion("not 1 to 8 questions on the letters")


def plains_of(questions):
    """The list of the questions in some questions that have none in them, each once."""
    found, layer = {}, list(questions)
    while layer:
        found.update({part: True for part in layer if not inner_of(part)})
        layer = [inner for part in layer for inner in inner_of(part)]
    return list(found)


def is_so(question, told):
    """Whether a question holds, by a function that tells it of questions without questions in them."""
    if question[0] == "not":
        return not is_so(question[1], told)
    if question[0] == "both":
        return all([is_so(part, told) for part in question[1]])
    if question[0] == "either":
        return any([is_so(part, told) for part in question[1]])
    return told(question)


def count_of(plain, lane):
    """What is counted for a question without questions in it, behind a lane."""
    count = 0
    for row in lane:
        count = count_behind(plain, count, row)
    return count


def count_behind(plain, count, row):
    """What is counted for a question behind one more row: 1 if it holds, for those that have no number."""
    head = plain[0]
    if row not in plain[1]:
        if head in ("last", "just") or (head == "since" and row in plain[2]):
            return 0
        return count
    if head == "turns":
        return (count + 1) % plain[2]
    return min(count + 1, plain[2]) if head in ("just", "count") else 1


def is_true(plain, count):
    """Whether a question without questions in it holds, by what is counted for it."""
    if plain[0] == "turns":
        return count == plain[3]
    return count == (plain[2] if plain[0] in ("just", "count") else 1)
