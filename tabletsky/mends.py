"""Wrong signs: how many figures of a tablet are others than a table's, and which are to be put right."""

from tabletsky.errors import Barred, Nowhere
from tabletsky.rowsets import Tally, ahead, all_rows, rows_in, set_of
from tabletsky.tablets import LOST, cut_out, figures_of, made_like, return_for, texts_of


def _right_rows(tablet, table, row):
    """The rows of a tablet as they are where it is taken to stand at a row of a table."""
    whole = cut_out(table, names=tablet.names(), forms=tablet.forms(), first=row, many=len(tablet))
    return whole.rows()


def _wrong_places(tablet, right):
    """The places of the figures of a tablet that are others than those of the right rows."""
    places = []
    for number, (cells, texts) in enumerate(zip(tablet.rows(), right)):
        for name, cell, text in zip(tablet.names(), cells, texts):
            places.extend([(number, name, place) for place, figure in figures_of(cell) if text[place] != figure])
    return places


def wrong(tablet, table, *, row):
    """How many figures of a tablet are wrong at a row of a table; None where a worth doesn't fit its form."""
    try:
        right = _right_rows(tablet, table, row)
    except Barred:
        return None
    return len(_wrong_places(tablet, right))


def mended(tablet, table, *, row):
    """A tablet with its wrong figures put right at a row of a table, and the places of these."""
    right = _right_rows(tablet, table, row)
    rows = []
    for cells, texts in zip(tablet.rows(), right):
        rows.append([_right_cell(cell, text) for cell, text in zip(cells, texts)])
    return (made_like(tablet, rows), _wrong_places(tablet, right))


def _right_cell(cell, text):
    """The signs of a text, but those that are lost in a cell."""
    return "".join([sign if sign == LOST else true for sign, true in zip(cell, text)])


class Shown:
    """The texts of a column's worths at all rows of a return, None of those that don't fit."""

    def __init__(self, texts):
        self._texts = texts
        self._by_place = {}

    def fitting(self):
        """The set of rows at which the worth fits."""
        return set_of([row for row, text in enumerate(self._texts) if text is not None])

    def having(self, place, sign):
        """The set of rows that have a sign at a place of the text."""
        if place not in self._by_place:
            self._by_place[place] = self._signs_at(place)
        return self._by_place[place].get(sign, 0)

    def _signs_at(self, place):
        """By signs, the sets of rows that have them at a place."""
        signs = {}
        for row, text in enumerate(self._texts):
            if text is not None:
                signs[text[place]] = signs.get(text[place], 0) | 1 << row
        return signs


def _wrong_at_all(tablet, table, many):
    """The Tally of the wrong figures at each row of a return of so many, and the set of rows at which all fits."""
    columns = [Shown(texts) for texts in texts_of(tablet, table, many)]
    fits = [column.fitting() for column in columns]
    tally = Tally()
    fitting = all_rows(many)
    for number, cells in enumerate(tablet.rows()):
        for column, fit, cell in zip(columns, fits, cells):
            fitting = fitting & ahead(fit, number, many)
            for place, figure in figures_of(cell):
                right = ahead(column.having(place, figure), number, many)
                tally.one_more(all_rows(many) ^ right)
    return tally, fitting


def least(tablet, table, *, most=5000):
    """The least number of wrong figures of a tablet at a row of a return, and all rows that have it."""
    tally, fitting = _wrong_at_all(tablet, table, return_for(tablet, table, most))
    if not fitting:
        raise Nowhere("at each row a worth doesn't fit its form")
    fewest, rows = tally.fewest(fitting)
    return (fewest, rows_in(rows))


def guard(tablet, table, *, row, most=5000):
    """How many wrong figures of a tablet are surely put right at a row, and the row that it is most like besides."""
    many = return_for(tablet, table, most)
    right, _ = mended(tablet, table, row=row)
    tally, fitting = _wrong_at_all(right, table, many)
    others = fitting & tally.counted()
    if not others:
        return (right.known(), None)
    fewest, rows = tally.fewest(others)
    return ((fewest - 1) // 2, rows_in(rows)[0])
