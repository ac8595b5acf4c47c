"""A desk: it keeps tables and tablets by names, and the history of what was done with them."""

from tabletsky.darkened import Dark
from tabletsky.errors import Busy, NoDeed, NoLine, NoThing, TooMany
from tabletsky.found import tables_part
from tabletsky.kinds import is_name, is_one_of
from tabletsky.mends import least, mended
from tabletsky.pieces import joined, torn
from tabletsky.sayings import parsed
from tabletsky.sixties import is_whole_from
from tabletsky.tables import Table
from tabletsky.tablets import Tablet, broken, cut_out, filled, stands, sure
from tabletsky.words import worth_word
from tabletsky.writing import read_table, read_tablet, show_table, show_tablet

MOST_WORKS = 8


def _words(things):
    return " ".join([f"{thing}" for thing in things])


def _tell_kind(thing):
    return "table" if isinstance(thing, Table) else "piece"


def _tell_text(thing):
    return show_table(thing) if isinstance(thing, Table) else show_tablet(thing)


def _tell_row(table, row):
    return _words([worth_word(thing) for thing in table.line(row)])


def _tell_stands(piece, table):
    return _words(stands(piece, table))


def _tell_least(piece, table):
    many, rows = least(piece, table)
    return _words([many] + rows)


def _tell_part(one, other):
    found = tables_part(one, other)
    return "never" if found is None else _words(list(found))


def _tell_dark(table, column, low, high, row):
    dark = Dark(table.rule_of(column), low=low, high=high)
    return _words([dark.next_dark(row)])


def _make_table(text):
    return read_table(text)


def _make_piece(text):
    return read_tablet(text)


def _make_cut(table, first, many, columns):
    names = [name for name, _, _ in columns]
    forms = [(wholes, parts) for _, wholes, parts in columns]
    return cut_out(table, names=names, forms=forms, first=first, many=many)


def _make_filled(piece, table, row):
    return filled(piece, table, row=row)


def _make_sure(piece, table):
    return sure(piece, table)


def _make_mended(piece, table, row):
    made, _ = mended(piece, table, row=row)
    return made


def _make_torn(piece, first, many):
    return torn(piece, first=first, many=many)


def _make_joined(one, other, shift):
    return joined(one, other, shift=shift)


def _make_broken(piece, row, column, place):
    return broken(piece, places=[(row, column, place)])


LOOKS = {
    "kind": _tell_kind,
    "show": _tell_text,
    "row": _tell_row,
    "stands": _tell_stands,
    "least": _tell_least,
    "part": _tell_part,
    "dark": _tell_dark,
}
DEEDS = {
    "table": _make_table,
    "piece": _make_piece,
    "cut": _make_cut,
    "fill": _make_filled,
    "sure": _make_sure,
    "mend": _make_mended,
    "tear": _make_torn,
    "join": _make_joined,
    "lose": _make_broken,
}


class Desk:
    """Tables and tablets by names, the steps done, and those taken back.

    The dict of the things is never changed: a deed puts another one in its place. So a step keeps its lines
    and the dict that was ahead of it, one taken back the dict that was behind it.
    """

    def __init__(self):
        self._things = {}
        self._steps = []
        self._undone = []
        self._going = 0
        # The lines of the deeds done so far in the innermost work that is going on.
        self._lines = []

    def _meant(self, kind, value):
        """What a line means by a value of a kind: the thing itself where it tells a thing's name."""
        if kind == "name":
            self.held(value)
            return value
        if kind not in ("thing", "table", "piece"):
            return value
        thing = self.held(value)
        if kind != "thing" and _tell_kind(thing) != kind:
            raise NoThing(value)
        return thing

    def say(self, line):
        """The answer to a line; what it makes stands on the desk."""
        word, kinds, values = parsed(line)
        values = [self._meant(kind, value) for kind, value in zip(kinds, values)]
        if word == "names":
            return _words(sorted(self._things))
        if word in LOOKS:
            tell = LOOKS[word]
            return tell(*values)
        things = dict(self._things)
        name, *others = values
        if word == "drop":
            del things[name]
        else:
            make = DEEDS[word]
            things[name] = make(*others)
        return self._done(line, things)

    def _done(self, line, things):
        """Does a deed: a step by itself, or one of those of the work that is going on."""
        if self._going:
            self._lines.append(line)
        else:
            self._keep([line], self._things)
        self._things = things
        return "ok"

    def _keep(self, lines, before):
        """Keeps a step, which does away with all that was taken back."""
        self._steps.append((lines, before))
        self._undone = []

    def held(self, name):
        """The table or tablet by a name."""
        if not is_one_of(name, self._things):
            raise NoThing(name)
        return self._things[name]

    def put(self, name, thing):
        """Puts a table or a tablet by a name, as the line with its text does."""
        if not is_name(name) or not (isinstance(thing, Table) or isinstance(thing, Tablet)):
            raise NoLine("a table or a tablet is put by a name")
        things = dict(self._things)
        things[name] = thing
        return self._done(f"{_tell_kind(thing)} {name}\n{_tell_text(thing)}", things)

    def _refuse_deed(self, many, steps):
        """Refuses what can't be done with so many of these steps."""
        if self._going:
            raise Busy("a work is going on")
        if not is_whole_from(many, 1, len(steps)):
            raise NoDeed("there are not so many steps")

    def back(self, *, many=1):
        """Takes the last steps back."""
        self._refuse_deed(many, self._steps)
        for _ in range(many):
            lines, before = self._steps.pop()
            self._undone.append((lines, self._things))
            self._things = before

    def forth(self, *, many=1):
        """Does steps again that were taken back."""
        self._refuse_deed(many, self._undone)
        for _ in range(many):
            lines, behind = self._undone.pop()
            self._steps.append((lines, self._things))
            self._things = behind

    def history(self):
        """The steps done, lists of the lines of their deeds."""
        return [list(lines) for lines, _ in self._steps]

    def taken_back(self):
        """The steps taken back, the next one to be done again first."""
        return [list(lines) for lines, _ in self._undone[::-1]]

    def within(self, work):
        """Calls a work with the desk: all its deeds are one step, and none are done where it raises."""
        if self._going == MOST_WORKS:
            raise TooMany("no more than eight works stand within one another")
        going, before, lines = self._going, self._things, self._lines
        things = before
        self._going = going + 1
        self._lines = []
        try:
            told = work(self)
            # Here nothing was raised: so what the work did is what is left behind it.
            things = self._things
            lines = lines + self._lines
        finally:
            self._going = going
            self._things = things
            self._lines = lines
        if going == 0 and lines:
            self._keep(lines, before)
            self._lines = []
        return told

    def going(self):
        """How many works are going on."""
        return self._going
