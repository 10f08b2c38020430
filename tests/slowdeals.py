"""Plain, slow definitions that deals, histories and orders are compared with, and such at random."""

import itertools

READERS = list("uvwxyz")


def lane_names(many):
    return [first + second for first in "klm" for second in "abcdefghijklmnopqrstuvwxyz"][:many]


def some_deal(rng, many, readers=READERS):
    return {lane: rng.choice(readers) for lane in lane_names(many)}


def some_bounds(rng, readers=READERS, greatest=5, most=12):
    found = {}
    for reader in rng.sample(readers, rng.randint(1, min(most, len(readers)))):
        high = rng.randint(0, greatest)
        found[reader] = (rng.randint(0, high), high)
    return found


def fitting_bounds(rng, many, readers=READERS, most=12):
    """Bounds at random within which there is a deal of so many lanes: those around the loads of some deal."""
    readers = rng.sample(readers, rng.randint(1, min(most, len(readers))))
    loads = {reader: 0 for reader in readers}
    for _ in range(many):
        loads[rng.choice(readers)] += 1
    return {reader: (max(0, load - rng.choice([0, 0, 1, 3])), min(60, load + rng.choice([0, 0, 1, 3]))) for reader, load in loads.items()}


def load_of(deal, reader):
    return len([1 for other in deal.values() if other == reader])


def names_in(deal, *rows):
    return sorted({*deal.values(), *(reader for bounds in rows for reader in bounds)})


def all_rows(names, bounds, many):
    """All rows of loads within bounds, of so many lanes."""
    ranges = [range(bounds.get(name, (0, 0))[0], min(many, bounds.get(name, (0, 0))[1]) + 1) for name in names]
    return [row for row in itertools.product(*ranges) if sum(row) == many]


def changes_between(one, other):
    """The least number of lanes that change their reader between two rows of loads."""
    return sum(max(0, before - now) for before, now in zip(one, other))


def slow_history(deal, history):
    """The least number of moves for all ticks, by trying all rows of loads; the first tick without one."""
    names = names_in(deal, *history)
    best = {tuple(load_of(deal, name) for name in names): 0}
    for tick, bounds in enumerate(history):
        rows = all_rows(names, bounds, len(deal))
        if not rows:
            return None, tick
        best = {row: min(cost + changes_between(before, row) for before, cost in best.items()) for row in rows}
    return min(best.values()), None


def is_in_bounds(deal, bounds):
    names = names_in(deal, bounds)
    return all(bounds.get(name, (0, 0))[0] <= load_of(deal, name) <= bounds.get(name, (0, 0))[1] for name in names)


def slow_order(deal, goal, caps):
    """The least number of moves from a deal to another one, by trying all orders; None if there is none."""
    lanes = sorted(deal)
    first, last = tuple(deal[lane] for lane in lanes), tuple(goal[lane] for lane in lanes)
    far, queue = {first: 0}, [first]
    for now in queue:
        if now == last:
            return far[now]
        for place, reader in itertools.product(range(len(lanes)), sorted(caps)):
            if reader != now[place] and now.count(reader) < caps[reader]:
                behind = now[:place] + (reader,) + now[place + 1:]
                if behind not in far:
                    far[behind] = far[now] + 1
                    queue.append(behind)
    return None


# Values that are no deals, no bounds, and no caps.
NO_DEALS = [None, [], "deal", (), [("k", "x")], {"k": None}, {"k": ""}, {"k": "X"}, {"K": "x"}, {1: "x"}, {"": "x"}, {"k": "abcdefghi"}, {"abcdefghi": "x"}, {"k": 1}, {"k": ["x"]},
            {("k",): "x"}, {lane: "x" for lane in lane_names(60) + ["n"]}]
NO_BOUNDS = [None, [], "bounds", (), {}, [("x", (0, 1))], {"x": None}, {"x": 1}, {"x": [0, 1]}, {"x": (1,)}, {"x": (0, 1, 2)}, {"x": (2, 1)}, {"x": (-1, 1)}, {"x": (0, 61)}, {"x": (0, True)},
             {"x": (False, 1)}, {"x": ("0", "1")}, {"x": (None, 1)}, {"X": (0, 1)}, {1: (0, 1)}, {"": (0, 1)}, {"abcdefghi": (0, 1)}, {letter: (0, 1) for letter in "abcdefghijklm"},
             {"y": (0, 1), "x": (0,)}]
NO_CAPS = [None, [], "caps", {}, {"x": None}, {"x": -1}, {"x": 61}, {"x": True}, {"x": "1"}, {"x": (0, 1)}, {"X": 1}, {1: 1}, {letter: 5 for letter in "mnopqrstuvwxy"}, [("x", 1)]]
