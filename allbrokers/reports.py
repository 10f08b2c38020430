"""Reports of runs of a route, in words."""

from allbrokers.machines import last_state
from allbrokers.routes import Case

STATUS_WORDS = ("the row is not sent", "the row is sent", "the row is told")
OUT_WORDS = ("out never", "out once", "out twice or more")


def report(route, run):
    """The text of a run: a line for the first state, and one for each step."""
    case = Case(route)
    last_state(case.machine, run)
    lines = [f"0 start: {state_text(case.states[0])}\n"]
    for place, step in enumerate(run):
        lines.append(f"{place + 1} {step_text(step)}: {state_text(case.states[step[3]])}\n")
    return "".join(lines)


def step_text(step):
    """What is told of a step itself."""
    _, kind, seen, _ = step
    text = f"fall {kind}" if kind else "step"
    return f"{text}, seen {seen}" if seen else text


def state_text(state):
    """What a state tells."""
    (status, calls, _, answer), logs, _, (saved, now), (out, _) = state
    numbers = " ".join([str(log) for log in logs])
    parts = [STATUS_WORDS[status], f"{calls} under way", f"copies have it {numbers}"]
    if answer == 1:
        parts.append("an answer is under way")
    parts.append(f"read {now}, saved {saved}")
    parts.append(OUT_WORDS[out])
    return "; ".join(parts)
