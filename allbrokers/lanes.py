"""What lanes lead to, in the order of the first lanes that lead there: shorter ones first, then as lists."""

from allbrokers.merging import refined


def spread_steps(letters, start, goal_of):
    """The nodes to which lanes lead from a first one, in this order, and for each the dict from letters to places.

    goal_of(node, letter) gives the node to which a row leads from a node.
    """
    nodes, places, steps = [start], {start: 0}, []
    while len(steps) < len(nodes):
        row = {}
        for letter in letters:
            goal = goal_of(nodes[len(steps)], letter)
            if goal not in places:
                places[goal] = len(nodes)
                nodes.append(goal)
            row[letter] = places[goal]
        steps.append(row)
    return nodes, steps


def walked(letters, steps):
    """The states to which lanes lead from 0, in this order, and for each the pair of a place and a letter behind it."""
    states, origins, known, at = [0], [None], {0: True}, 0
    while at < len(states):
        for letter in letters:
            goal = steps[states[at]][letter]
            if goal not in known:
                known[goal] = True
                states.append(goal)
                origins.append((at, letter))
        at += 1
    return states, origins


def lane_to(origins, at):
    """The lane that leads to a place, by the pair of the place and the letter that each place comes from."""
    return lane_back(origins, at)[::-1]


def lane_back(origins, at):
    """The letters on the way from a place back to the first one."""
    lane = []
    while origins[at] is not None:
        at, letter = origins[at]
        lane.append(letter)
    return lane


def least_steps(letters, steps, labels):
    """The steps of as few states as can be that tell the same labels behind all lanes, and an old state for each."""
    blocks = refined([[(letter, "", row[letter]) for letter in letters] for row in steps], labels)
    numbers, states, rows = {blocks[0]: 0}, [0], []
    while len(rows) < len(states):
        row, state = {}, states[len(rows)]
        for letter in letters:
            goal = steps[state][letter]
            if blocks[goal] not in numbers:
                numbers[blocks[goal]] = len(states)
                states.append(goal)
            row[letter] = numbers[blocks[goal]]
        rows.append(row)
    return rows, states


def first_lane(letters, start, goal_of, is_wanted):
    """The nodes to which lanes lead that are read from their end, and the first lane that is wanted, None if none is.

    goal_of(node, letter) gives the node to which a row in front leads; is_wanted(node, letter) tells whether a lane is
    wanted, by its first row and the node of the rows behind this one. The nodes of each length stand in the order of
    their first lanes, if those with the first letter in front are gone through first: so the first one found is it.
    """
    nodes, origins, known, layer = [start], [None], {start: True}, [0]
    while layer:
        longer = []
        for letter in letters:
            for at in layer:
                if is_wanted(nodes[at], letter):
                    return nodes, [letter] + lane_back(origins, at)
                goal = goal_of(nodes[at], letter)
                if goal not in known:
                    known[goal] = True
                    longer.append(len(nodes))
                    nodes.append(goal)
                    origins.append((at, letter))
        layer = list(longer)
    return nodes, None
