"""Which kinds of falls must be barred that no run ends in some states."""

from allbrokers.checks import check_states, is_ascending
from allbrokers.errors import TooLarge
from allbrokers.falls import copied_table
from allbrokers.machines import end_of, is_run
from allbrokers.promises import Kept, judge_never

MOST_KINDS = 10


class Barring:
    """The least sets of kinds that are enough, with tables, and runs by which no others are."""

    def __init__(self, sets, tables, runs):
        self.sets = list(sets)
        self.tables = [copied_table(table) for table in tables]
        self.runs = [list(run) for run in runs]

    def __eq__(self, other):
        return (isinstance(other, Barring) and self.sets == other.sets and self.tables == other.tables
                and self.runs == other.runs)

    def shows(self, machine, bad):
        """Whether the sets are enough by the tables, and by the runs there are no other least ones."""
        check_asked(machine, bad)
        if not self._has_sets(machine) or not self._has_tables(machine, bad):
            return False
        for run in self.runs:
            if not is_run(machine, run) or end_of(run) not in bad:
                return False
        falls = [kinds_in(run) for run in self.runs]
        rest = [kinds for kinds in subsets(machine.kinds) if not has_part(self.sets, kinds)]
        return all([has_apart(falls, kinds) for kinds in rest])

    def _has_sets(self, machine):
        """Whether the sets are some of kinds, shorter ones first, then ascending, none of them in another."""
        places = {kinds: place for place, kinds in enumerate(subsets(machine.kinds))}
        if not all([kinds in places for kinds in self.sets]):
            return False
        if not is_ascending([places[kinds] for kinds in self.sets]):
            return False
        return not any([has_part(self.sets[:at], kinds) for at, kinds in enumerate(self.sets)])

    def _has_tables(self, machine, bad):
        """Whether there is for each set a table by which it is enough."""
        if len(self.tables) != len(self.sets):
            return False
        for kinds, table in zip(self.sets, self.tables):
            if not Kept(table).shows(machine, bad, allowed_without(machine, kinds)):
                return False
        return True


def barring(machine, bad):
    """The least sets of kinds that must be barred that no run ends in some states, as evidence."""
    check_asked(machine, bad)
    sets, tables, runs, falls = [], [], [], []
    for kinds in subsets(machine.kinds):
        if has_part(sets, kinds) or has_apart(falls, kinds):
            continue
        found = judge_never(machine, bad, allowed_without(machine, kinds))
        if found:
            sets.append(kinds)
            tables.append(found.costs)
        else:
            runs.append(found.run)
            falls.append(kinds_in(found.run))
    return Barring(sets, tables, runs)


def check_asked(machine, bad):
    """Refuse states that are none, and machines with too many kinds."""
    check_states(machine, bad)
    if len(machine.kinds) > MOST_KINDS:
        raise TooLarge("more than 10 kinds")


def subsets(kinds):
    """All ascending tuples of some kinds, shorter ones first, then ascending."""
    rows = [()]
    for kind in kinds:
        rows = rows + [row + (kind,) for row in rows]
    return sorted(sorted(rows), key=len)


def allowed_without(machine, kinds):
    """The allowances by which all kinds but some may come any number of times."""
    return {kind: None for kind in machine.kinds if kind not in kinds}


def kinds_in(run):
    """The kinds of the falls of a run, each once, as the keys of a dict."""
    return {step[1]: True for step in run if step[1]}


def has_part(sets, kinds):
    """Whether all kinds of one of some sets are among others."""
    return any([all([kind in kinds for kind in row]) for row in sets])


def has_apart(falls, kinds):
    """Whether some kinds have none in common with one of some dicts of kinds."""
    return any([not any([kind in row for kind in kinds]) for row in falls])
