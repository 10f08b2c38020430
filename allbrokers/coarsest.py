"""The coarsest rules of which readers see nothing, and rules put together.

A plan is what a least rule is made of: a list of dicts from letters to places, and for each place the tuple of the
letters that are dropped at it. Other than a rule, it has any number of places.
"""

from allbrokers.lanes import first_lane, least_steps, spread_steps
from allbrokers.readererrors import BadReader, BadRule
from allbrokers.readers import Reader, check_reader
from allbrokers.squeezing import Rule, Views, check_rule


def least_rule(rule):
    """The rule that drops the same rows of all lanes, with as few states as can be."""
    check_rule(rule)
    return made_of(rule.letters, plan_of(rule))


def coarsest(reader):
    """The least rule that drops a row just if the view of the lane behind it is the same with the row in front."""
    check_reader(reader)
    return made_of(reader.letters, coarsest_plan(reader))


def coarsest_of(readers):
    """The least rule that drops the rows that the coarsest rules of all readers drop."""
    if not are_alike([isinstance(reader, Reader) for reader in checked_list(readers)], readers):
        raise BadReader("not a list of readers of the same letters")
    return joined_all(readers[0].letters, [coarsest_plan(reader) for reader in readers], True)


def both(rules):
    """The least rule that drops a row if all of some rules drop it."""
    check_rules(rules)
    return joined_all(rules[0].letters, [plan_of(rule) for rule in rules], True)


def either(rules):
    """The least rule that drops a row if one at least of some rules drops it."""
    check_rules(rules)
    return joined_all(rules[0].letters, [plan_of(rule) for rule in rules], False)


def within(rule, other):
    """Whether each row of each lane that a rule drops is dropped by another one."""
    return drops_more(rule, other) is None


def drops_more(rule, other):
    """The first lane whose first row a rule drops and another one does not, None if there is none."""
    check_rules([rule, other])
    return first_lane(
        rule.letters, (0, 0), lambda pair, letter: (rule.steps[pair[0]][letter], other.steps[pair[1]][letter]),
        lambda pair, letter: rule.drops_at(pair[0], letter) and not other.drops_at(pair[1], letter))[1]


def keeping_last(letters, groups):
    """The least rule that drops a row of a group if a row of the same group is behind it."""
    places = {letter: place for place, group in enumerate(groups) for letter in group}
    nodes, steps = spread_steps(letters, (False,) * len(groups), lambda node, letter: with_group(places, node, letter))
    dropped = [tuple([letter for letter in letters if letter in places and node[places[letter]]]) for node in nodes]
    return made_of(letters, (steps, dropped))


def with_group(places, node, letter):
    """Whether rows of each group are behind a row, by whether they were behind the one before it."""
    if letter not in places:
        return node
    place = places[letter]
    return node[:place] + (True,) + node[place + 1:]


def checked_list(values):
    """A value, if it is a list or tuple, otherwise an empty list."""
    return values if isinstance(values, (list, tuple)) else []


def are_alike(are_parts, parts):
    """Whether there are parts, all of them such as they must be, and of the same letters."""
    if not are_parts or not all(are_parts):
        return False
    return all([part.letters == parts[0].letters for part in parts])


def check_rules(rules):
    """Refuse what is no list of rules of the same letters."""
    if not are_alike([isinstance(rule, Rule) for rule in checked_list(rules)], rules):
        raise BadRule("not a list of rules of the same letters")


def plan_of(rule):
    """The plan of a rule."""
    dropped = [[] for _ in rule.steps]
    for state, letter in rule.drops:
        dropped[state].append(letter)
    return rule.steps, [tuple(letters) for letters in dropped]


def coarsest_plan(reader):
    """The plan whose places are the views for a reader, that drops letters that leave them as they are."""
    views = Views(reader)
    nodes, steps = spread_steps(reader.letters, 0, views.in_front)
    dropped = [tuple([letter for letter in row if row[letter] == place]) for place, row in enumerate(steps)]
    return steps, dropped


def least_plan(letters, plan):
    """The plan with as few places as can be, numbered in the order of the first lanes that lead to them."""
    rows, places = least_steps(letters, plan[0], plan[1])
    return rows, [plan[1][place] for place in places]


def made_of(letters, plan):
    """The least rule of a plan."""
    steps, dropped = least_plan(letters, plan)
    return Rule(letters, steps, [(place, letter) for place, row in enumerate(dropped) for letter in row])


def joined_all(letters, plans, is_of_all):
    """The least rule that drops what all of some plans drop, or what one at least drops."""
    found = plans[0]
    for plan in plans[1:]:
        # Least ones on the way keep the pairs few.
        found = least_plan(letters, joined_pair(letters, found, least_plan(letters, plan), is_of_all))
    return made_of(letters, found)


def joined_pair(letters, one, other, is_of_all):
    """The plan of the pairs of places of two plans."""
    nodes, steps = spread_steps(letters, (0, 0), lambda pair, row: (one[0][pair[0]][row], other[0][pair[1]][row]))
    dropped = [dropped_by(letters, one[1][low], other[1][high], is_of_all) for low, high in nodes]
    return steps, dropped


def dropped_by(letters, one, other, is_of_all):
    """The tuple of the letters that are in both of two tuples, or in one at least."""
    if is_of_all:
        return tuple([letter for letter in letters if letter in one and letter in other])
    return tuple([letter for letter in letters if letter in one or letter in other])
