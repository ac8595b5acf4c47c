"""Broken tablets: cells by sixties, some figures of which are lost, and the rows at which they can stand."""

from tabletsky.errors import Barred, NoColumn, NoFit, NoReturn, NoTablet, Nowhere, TooMany
from tabletsky.kinds import FIGURES, are_names, is_list, is_tuple
from tabletsky.sixties import is_form, is_whole, is_whole_from, joined_groups, show
from tabletsky.tables import shared_return

MOST_TABLET_ROWS = 60
LOST = "?"


def _are_forms(thing, many):
    """Whether a thing is a list of so many forms."""
    return is_list(thing, many, many) and all([is_form(form) for form in thing])


def _cell_of(form, group):
    """The cell of a form, each of its groups the same one."""
    wholes, parts = form
    return joined_groups([group] * (wholes + parts), wholes)


def _greatest(form):
    """The text of the greatest worth that a form can show."""
    return _cell_of(form, "59")


def blank_of(form):
    """The cell of a form with all its figures lost."""
    return _cell_of(form, LOST + LOST)


def _is_cell(thing, greatest):
    """Whether a thing is a text of the form that has this greatest one."""
    if not isinstance(thing, str) or len(thing) != len(greatest):
        return False
    for sign, most in zip(thing, greatest):
        if most not in FIGURES:
            if sign != most:
                return False
        elif sign != LOST and not "0" <= sign <= most:
            return False
    return True


def _first_wrong_cell(rows, greatest):
    """The tuple (row, at) of the first one that isn't so; None where all are."""
    for number, row in enumerate(rows):
        if not is_list(row, len(greatest), len(greatest)):
            return (number, None)
        for at, cell in enumerate(row):
            if not _is_cell(cell, greatest[at]):
                return (number, at)
    return None


def _first_wrong(names, forms, rows):
    """What of these isn't so; None where they make a tablet."""
    if not are_names(names):
        return "names"
    if not _are_forms(forms, len(names)):
        return "forms"
    if not is_list(rows, 1, MOST_TABLET_ROWS):
        return "rows"
    return _first_wrong_cell(rows, [_greatest(form) for form in forms])


class Tablet:
    """A tablet: names of columns, a form for each, and rows of cells."""

    def __init__(self, *, names, forms, rows):
        why = _first_wrong(names, forms, rows)
        if why is not None:
            raise NoTablet(why)
        self._names = list(names)
        self._forms = list(forms)
        self._rows = [list(row) for row in rows]

    def names(self):
        """The names of the columns, in order."""
        return list(self._names)

    def forms(self):
        """The forms of the columns, tuples (wholes, parts)."""
        return list(self._forms)

    def rows(self):
        """The rows, lists of cells."""
        return [list(row) for row in self._rows]

    def known(self):
        """How many figures it has."""
        return len([sign for row in self._rows for cell in row for sign in cell if sign in FIGURES])

    def lost(self):
        """How many figures are lost."""
        return sum([cell.count(LOST) for row in self._rows for cell in row])

    def __len__(self):
        return len(self._rows)

    def __eq__(self, other):
        return (isinstance(other, Tablet) and self._names == other._names
                and self._forms == other._forms and self._rows == other._rows)


def _refuse_unknown(names, table):
    known = table.names()
    for name in names:
        if name not in known:
            raise NoColumn(name)


def _shown(table, name, row, form):
    """The text of a column's worth at a row by a form; None where it doesn't fit."""
    wholes, parts = form
    thing = table.value(name, row)
    try:
        return show(thing, wholes=wholes, parts=parts)
    except NoFit:
        return None


def figures_of(cell):
    """The figures that a cell has, with their places: tuples (place, figure)."""
    return [(place, sign) for place, sign in enumerate(cell) if sign in FIGURES]


def _has(text, figures):
    """Whether a text, None of a worth that doesn't fit, has figures at their places."""
    if text is None:
        return False
    for place, figure in figures:
        if text[place] != figure:
            return False
    return True


def bars(tablet, table, *, row):
    """The first (row, name) at which a tablet can't stand at a row of a table; None where it stands."""
    names, forms = tablet.names(), tablet.forms()
    _refuse_unknown(names, table)
    for number, cells in enumerate(tablet.rows()):
        for name, form, cell in zip(names, forms, cells):
            if not _has(_shown(table, name, row + number, form), figures_of(cell)):
                return (number, name)
    return None


def return_for(tablet, table, most):
    """The number of rows, up to most, behind which all columns of a tablet come again."""
    names = tablet.names()
    _refuse_unknown(names, table)
    rows = shared_return([table.return_of(name) for name in names])
    if rows is None:
        raise NoReturn("a column of the tablet never comes again")
    if rows > most:
        raise TooMany("the columns of the tablet come again behind too many rows")
    return rows


def texts_of(tablet, table, many):
    """For each column of a tablet, the texts of its worths at the first so many rows of a table."""
    return [[_shown(table, name, row, form) for row in range(many)]
            for name, form in zip(tablet.names(), tablet.forms())]


def standing_rows(tablet, columns):
    """The rows of a return at which a tablet can stand, columns being the texts of that return."""
    many = len(columns[0])
    rows = list(range(many))
    for number, cells in enumerate(tablet.rows()):
        for texts, cell in zip(columns, cells):
            figures = figures_of(cell)
            rows = [row for row in rows if _has(texts[(row + number) % many], figures)]
    return rows


def stands(tablet, table, *, most=5000):
    """All rows of a return at which a tablet can stand, rising."""
    many = return_for(tablet, table, most)
    return standing_rows(tablet, texts_of(tablet, table, many))


def made_like(tablet, rows):
    """The tablet of these rows, with another one's names and forms."""
    return Tablet(names=tablet.names(), forms=tablet.forms(), rows=rows)


def filled(tablet, table, *, row):
    """A tablet that stands at a row of a table, with all its figures."""
    barred = bars(tablet, table, row=row)
    if barred is not None:
        number, name = barred
        raise Barred(number, name)
    return cut_out(table, names=tablet.names(), forms=tablet.forms(), first=row, many=len(tablet))


def sure(tablet, table, *, most=5000):
    """A tablet with each lost figure that is the same one wherever it can stand."""
    many = return_for(tablet, table, most)
    columns = texts_of(tablet, table, many)
    standing = standing_rows(tablet, columns)
    if not standing:
        raise Nowhere("the tablet can stand at no row")
    rows = []
    for number in range(len(tablet)):
        rows.append([_common([texts[(row + number) % many] for row in standing]) for texts in columns])
    return made_like(tablet, rows)


def _common(texts):
    """A text of the signs that texts of one form have in common, the others lost."""
    # Many rows may have the same text: each need be looked at but once.
    unlike = list({text: True for text in texts})
    first = unlike[0]
    return "".join([sign if _all_have(unlike, place, sign) else LOST for place, sign in enumerate(first)])


def _all_have(texts, place, sign):
    for text in texts:
        if text[place] != sign:
            return False
    return True


def cut_out(table, *, names, forms, first, many=1):
    """The tablet of so many rows of a table from a first one on, none of its figures lost."""
    if not is_whole(first) or not is_whole_from(many, 1, MOST_TABLET_ROWS):
        raise NoTablet("rows")
    if not are_names(names):
        raise NoTablet("names")
    _refuse_unknown(names, table)
    if not _are_forms(forms, len(names)):
        raise NoTablet("forms")
    rows = []
    for number in range(many):
        cells = []
        for name, form in zip(names, forms):
            text = _shown(table, name, first + number, form)
            if text is None:
                raise Barred(number, name)
            cells.append(text)
        rows.append(cells)
    return Tablet(names=names, forms=forms, rows=rows)


def _is_place(thing, names, rows):
    """Whether a thing tells where a figure stands, lost or not."""
    if not is_tuple(thing, 3):
        return False
    row, name, place = thing
    if not is_whole_from(row, 0, len(rows) - 1) or not isinstance(name, str) or name not in names:
        return False
    cell = rows[row][names.index(name)]
    return is_whole_from(place, 0, len(cell) - 1) and cell[place] in FIGURES + LOST


def broken(tablet, *, places):
    """A tablet with the figures at places lost, tuples (row, name, place)."""
    names, rows = tablet.names(), tablet.rows()
    if not isinstance(places, list) or not all([_is_place(thing, names, rows) for thing in places]):
        raise NoTablet("places")
    for row, name, place in places:
        at = names.index(name)
        cell = rows[row][at]
        rows[row][at] = cell[:place] + LOST + cell[place + 1:]
    return made_like(tablet, rows)
