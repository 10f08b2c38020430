"""Routes and links once more, plainly after the document: states as dicts, that are changed one attribute at a time."""


def changed(state, **more):
    new = {name: list(value) if isinstance(value, list) else value for name, value in state.items()}
    new.update(more)
    return new


def route_start(told):
    return {"status": 0, "calls": 0, "asked": 0, "answer": 0, "leader": 0, "others": [0] * (told["copies"] - 1),
            "near": -1, "saved": 0, "now": 0, "out": 0, "far": -1}


def route_tuple(s):
    return ((s["status"], s["calls"], s["asked"], s["answer"]), (s["leader"], *sorted(s["others"])), s["near"],
            (s["saved"], s["now"]), (s["out"], s["far"]))


def route_own(told, s):
    copies = [s["leader"]] + s["others"]
    if s["calls"] < told["room"]:
        if s["status"] == 0 or (s["status"] == 1 and told["repeats"]):
            yield "", changed(s, calls=s["calls"] + 1, status=2 if told["need"] == 0 else 1)
    if s["calls"]:
        new = changed(s, calls=s["calls"] - 1)
        if told["need"]:
            new["asked"] = 1
        if s["near"] == -1:
            new["leader"] = [1, 2, 2][s["leader"]]
            if told["window"] != 0:
                new["near"] = 0
        yield "", new
    if s["asked"] == 1 and sum(1 for copy_ in copies if copy_ > 0) >= told["need"]:
        yield "", changed(s, asked=0, answer=1)
    if s["answer"] == 1:
        yield ("told" if s["status"] != 2 else ""), changed(s, answer=0, status=2)
    for place, number in enumerate(s["others"]):
        if number < s["leader"]:
            new = changed(s)
            new["others"][place] += 1
            yield "", new
    may_read = s["now"] < s["leader"]
    if told["reads"] == "safe":
        may_read = may_read and sum(1 for copy_ in copies if copy_ > s["now"]) >= (told["need"] or 1)
    if told["place"] == "before":
        may_read = may_read and s["now"] < s["saved"]
    if may_read:
        new = changed(s, now=s["now"] + 1)
        if told["place"] == "with":
            new["saved"] = s["now"] + 1
        if s["far"] == -1:
            new["out"] = min(s["out"] + 1, 2)
            if told["outlet"] != 0:
                new["far"] = 0
            yield "out", new
        else:
            yield "", new
    if told["place"] == "after" and s["saved"] < s["now"]:
        yield "", changed(s, saved=s["now"])
    if told["place"] == "before" and s["saved"] <= s["now"] and s["now"] < s["leader"]:
        yield "", changed(s, saved=s["now"] + 1)


def route_falls(told, s):
    if s["calls"]:
        yield "call", changed(s, calls=s["calls"] - 1)
        if s["calls"] < told["room"]:
            yield "double", changed(s, calls=s["calls"] + 1)
    if s["answer"]:
        yield "answer", changed(s, answer=0)
    if s["status"] == 1:
        yield "sender", changed(s, status=0)
    if s["now"] != s["saved"]:
        yield "reader", changed(s, now=s["saved"])
    for place, number in enumerate(s["others"]):
        if number:
            new = changed(s)
            new["others"][place] = 0
            yield "copy", new
    if not s["others"]:
        yield "leader", changed(s, leader=0, near=-1, saved=0, now=0, asked=0)
    for place, number in enumerate(s["others"]):
        if told["choice"] == "any" or number == max(s["others"]):
            new = changed(s, leader=number, asked=0)
            del new["others"][place]
            new["others"] = [min(other, number) for other in new["others"]] + [0]
            if number == 0:
                new["near"] = -1
            new["saved"], new["now"] = min(number, s["saved"]), min(number, s["now"])
            yield "leader", new
    for kind, name, limit in (("inrow", "near", told["window"]), ("outrow", "far", told["outlet"])):
        if s[name] != -1 and limit is not None:
            yield kind, changed(s, **{name: -1 if s[name] + 1 == limit else s[name] + 1})


def route_steps(told, s):
    for seen, new in route_own(told, s):
        yield "", seen, new
    for kind, new in route_falls(told, s):
        yield kind, "", new


def link_start(told):
    return {"status": [0, 0], "calls": [], "answers": [0, 0], "kept": [0, 0], "near": [], "disorder": 0}


def link_tuple(s):
    return (tuple(s["status"]), tuple(s["calls"]), tuple(s["answers"]), tuple(s["kept"]), tuple(s["near"]), s["disorder"])


def link_own(told, s):
    if len(s["calls"]) < told["room"]:
        fresh = [row for row in (0, 1) if s["status"][row] == 0]
        if fresh and len([row for row in (0, 1) if s["status"][row] == 1]) < told["ahead"]:
            new = changed(s, calls=s["calls"] + fresh[:1])
            new["status"][fresh[0]] = 1
            yield "", new
        for row in (0, 1):
            if told["repeats"] and s["status"][row] == 1:
                yield "", changed(s, calls=s["calls"] + [row])
    if s["calls"]:
        yield link_taking(told, s)
    for row in (0, 1):
        if s["answers"][row]:
            new = changed(s)
            new["answers"][row] = 0
            new["status"][row] = 2
            yield ("told" if s["status"][row] < 2 else ""), new


def link_taking(told, s):
    row = s["calls"][0]
    new = changed(s, calls=s["calls"][1:])
    is_known = False
    if told["check"] == "window":
        is_known = row in s["near"]
    if told["check"] == "next" and s["near"]:
        is_known = s["near"][-1] >= row
    is_new = not is_known
    if told["check"] == "next":
        is_new = is_new and len(s["near"]) == row
    if is_known or is_new:
        new["answers"][row] = 1
    if not is_new:
        return "", new
    if row == 0 and s["kept"][1]:
        new["disorder"] = 1
    new["kept"][row] = min(2, s["kept"][row] + 1)
    if told["check"] != "none":
        new["near"].append(row)
    if told["check"] == "window":
        new["near"] = new["near"][-told["window"]:]
    return "kept", new


def link_falls(told, s):
    calls = s["calls"]
    for place in range(len(calls)):
        yield "call", changed(s, calls=calls[:place] + calls[place + 1:])
        if len(calls) < told["room"]:
            yield "double", changed(s, calls=calls + [calls[place]])
    if len(calls) == 2:
        yield "late", changed(s, calls=[calls[1], calls[0]])
    for row in (0, 1):
        if s["answers"][row]:
            new = changed(s)
            new["answers"][row] = 0
            yield "answer", new
    if 1 in s["status"]:
        yield "sender", changed(s, status=[{0: 0, 1: 0, 2: 2}[status] for status in s["status"]])
    if s["near"] and not told["keeps"]:
        yield "taker", changed(s, near=[])
    if s["near"] and told["check"] == "window":
        yield "inrow", changed(s, near=(s["near"] + [2])[-told["window"]:])


def link_steps(told, s):
    for seen, new in link_own(told, s):
        yield "", seen, new
    for kind, new in link_falls(told, s):
        yield kind, "", new


def explored(told, start, steps_of, tuple_of):
    """The states, the first one first and all others ascending, and the set of the steps between their numbers."""
    first = start(told)
    known = {tuple_of(first): first}
    queue, found = [first], []
    while queue:
        state = queue.pop()
        for kind, seen, new in steps_of(told, state):
            found.append((tuple_of(state), kind, seen, tuple_of(new)))
            if tuple_of(new) not in known:
                known[tuple_of(new)] = new
                queue.append(new)
    states = [tuple_of(first)] + sorted(state for state in known if state != tuple_of(first))
    numbers = {state: number for number, state in enumerate(states)}
    return states, {(numbers[state], kind, seen, numbers[goal]) for state, kind, seen, goal in found}


def slow_route(told):
    return explored(told, route_start, route_steps, route_tuple)


def slow_link(told):
    return explored(told, link_start, link_steps, link_tuple)
