"""Books of named routes and links, and of promises that they must keep."""

from allbrokers.checks import is_word
from allbrokers.choices import case_of, check_limits, judge, judged
from allbrokers.errors import BadName, BadSettings, NoPart, NothingDone
from allbrokers.links import Link
from allbrokers.routes import Route


class Entry:
    """A part of a book, the pairs of promises and allowances taken up for it, and what it was before; never changed."""

    def __init__(self, part, promises, past):
        self.part = part
        self.promises = promises
        self.past = past

    def breach(self, part):
        """The pair of the first promise that another part does not keep, and a run by which; None if it keeps all."""
        # No machine is built for nothing.
        if not self.promises:
            return None
        case = case_of(part)
        for promise, allowances in self.promises:
            found = judged(case, promise, allowances)
            if not found:
                return promise, found.run
        return None


class Book:
    """Named routes and links, with promises."""

    MOST = 20

    def __init__(self):
        # Each deed puts a new dict here, so that a trial can keep the old one.
        self.held = {}

    def __getitem__(self, at):
        return self.entry_of(at).part

    def __setitem__(self, at, worth):
        if not is_word(at) or not isinstance(worth, (Route, Link)):
            raise BadName(at)
        if at not in self.held and len(self.held) >= Book.MOST:
            raise BadName(at)
        self.put(at, Entry(with_settings(worth, {}), [], []))

    def __contains__(self, x):
        return is_word(x) and x in self.held

    def __len__(self):
        return len(self.held)

    def __iter__(self):
        raise TypeError("a book is not iterated over: ask for titles() or entries()")

    def entry_of(self, name):
        """The entry of a name."""
        if not is_word(name) or name not in self.held:
            raise NoPart(name)
        return self.held[name]

    def put(self, name, entry):
        """Put an entry under a name, in a new dict."""
        self.held = {**self.held, name: entry}

    def titles(self):
        """The ascending list of the names."""
        return sorted(self.held)

    def entries(self):
        """Generate the pairs of a name and its part, by ascending names."""
        held = self.held
        for name in sorted(held):
            yield name, held[name].part

    def claim(self, name, promise, allowances):
        """Judge a promise, and take it up if it is kept."""
        entry = self.entry_of(name)
        found = judge(entry.part, promise, allowances)
        if found and (promise, allowances) not in entry.promises:
            self.put(name, Entry(entry.part, entry.promises + [(promise, dict(allowances))], entry.past))
        return found

    def promises_of(self, name):
        """The list of the pairs of a promise that is taken up and its allowances."""
        return [(promise, dict(allowances)) for promise, allowances in self.entry_of(name).promises]

    # No setting has a name with a line in it, so that each one but name can be given.
    def change(self_, name, **settings):
        """Give settings other values, if all promises are kept then; otherwise the first broken one, and a run."""
        entry = self_.entry_of(name)
        part = with_settings(entry.part, settings)
        found = entry.breach(part)
        if found is None:
            self_.put(name, Entry(part, entry.promises, entry.past + [entry.part]))
        return found

    def undo(self, name):
        """Undo the last change of a part, if all promises are kept then: its settings, otherwise None."""
        entry = self.entry_of(name)
        if not entry.past:
            raise NothingDone("no change is left")
        part = entry.past[-1]
        if entry.breach(part) is not None:
            return None
        self.put(name, Entry(part, entry.promises, entry.past[:-1]))
        return part.settings()

    def broken(self, allowances):
        """The list of the triples of a name, a promise that is not kept under allowances, and a run."""
        names = [name for name in self.titles() if self.held[name].promises]
        if names:
            check_limits(allowances)
        rows = []
        for name in names:
            case = case_of(self.held[name].part)
            for promise, _ in self.held[name].promises:
                found = judged(case, promise, allowances)
                if not found:
                    rows.append((name, promise, found.run))
        return rows

    def trial(self):
        """What a with statement does work on the book by, which is undone if it is left by an error."""
        return Trial(self)

    def attempt(self, deed):
        """What deed(book) returns, called in a trial."""
        with self.trial() as draft:
            return deed(draft)


class Trial:
    """Work on a book that is undone if it is left by an error."""

    def __init__(self, book):
        self.book = book
        self.saved = book.held

    def __enter__(self):
        self.saved = self.book.held
        return self.book

    def __exit__(self, kind, value, trace):
        book = self.book
        if kind is not None:
            book.held = self.saved


def with_settings(part, settings):
    """A new route or link like another one, with some other values of settings."""
    old = part.settings()
    for name in settings:
        if name not in old:
            raise BadSettings(name)
    told = {**old, **settings}
    return Link(**told) if isinstance(part, Link) else Route(**told)
