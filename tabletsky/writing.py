"""Tables and tablets as texts."""

from tabletsky.errors import NoRule, NoTablet, NoText
from tabletsky.lines import Line
from tabletsky.tables import MOST_COLUMNS, Table, is_column
from tabletsky.tablets import MOST_TABLET_ROWS, Tablet
from tabletsky.words import whole_of, worth_of, worth_word
from tabletsky.zones import Zones

WAYS = {"up": True, "down": False}


def _worths_word(things):
    return ",".join([worth_word(thing) for thing in things])


def _corners_word(corners):
    return ",".join([f"{worth_word(one)}:{worth_word(other)}" for one, other in corners])


def _line_words(line):
    low, high, step, at, up = line.made_of()
    worths = [worth_word(thing) for thing in (low, high, step, at)]
    return ["line"] + worths + ["up" if up else "down"]


def _zones_words(zones):
    ring, borders, steps, at = zones.made_of()
    return ["zones", worth_word(ring), _worths_word(borders), _worths_word(steps), worth_word(at)]


def _made_words(made):
    """The words of what makes a column."""
    if isinstance(made, Line):
        return _line_words(made)
    if isinstance(made, Zones):
        return _zones_words(made)
    kind, source, more = made
    if kind in ("sum", "less"):
        return [kind, source, more]
    return [kind, source, _corners_word(more) if kind == "by" else worth_word(more)]


def _column_row(name, made):
    """The row of a table's text that tells a column."""
    return " ".join([name] + _made_words(made))


def show_table(table):
    """The text of a table: a row for each column."""
    return "\n".join([_column_row(name, table.rule_of(name)) for name in table.names()])


def _worths_of(word):
    """The worths of a word, parted by commas, None for each that is none."""
    return [worth_of(part) for part in word.split(",")]


def _corners_of(word):
    """The corners of a word, parted by commas: tuples of worths, None for each that is none."""
    return [tuple([worth_of(part) for part in corner.split(":")]) for corner in word.split(",")]


def _line_of(words):
    """The line of its words; None where they make none."""
    low, high, step, at = [worth_of(word) for word in words[:4]]
    try:
        # What is no way's word is no truth here, and so no line.
        return Line(low=low, high=high, step=step, at=at, up=WAYS.get(words[4]))
    except NoRule:
        return None


def _zones_of(words):
    """The zones of their words; None where they make none."""
    ring, borders, steps, at = words
    try:
        return Zones(ring=worth_of(ring), borders=_worths_of(borders), steps=_worths_of(steps), at=worth_of(at))
    except NoRule:
        return None


def _made_of(kind, words):
    """What makes a column, of its kind and the words behind this; None of a kind or so many words that make none."""
    if kind == "line" and len(words) == 5:
        return _line_of(words)
    if kind == "zones" and len(words) == 4:
        return _zones_of(words)
    if len(words) != 2:
        return None
    source, more = words
    if kind in ("sum", "less"):
        return (kind, source, more)
    return (kind, source, _corners_of(more) if kind == "by" else worth_of(more))


def _column_of(row, ahead):
    """The column of a row of a table's text, behind those of the names ahead; None of what is none."""
    name, *words = row.split(" ")
    if not words:
        return None
    kind, *others = words
    column = (name, _made_of(kind, others))
    # What is told otherwise than it is shown, as a line's way at high, can't be read.
    if not is_column(column, ahead) or _column_row(name, column[1]) != row:
        return None
    return column


def read_table(text):
    """The table of a text that show_table can tell."""
    if not isinstance(text, str):
        raise NoText(None)
    columns = []
    for at, row in enumerate(text.split("\n")):
        column = _column_of(row, [name for name, _ in columns])
        if column is None or at >= MOST_COLUMNS:
            raise NoText(at)
        columns.append(column)
    return Table(columns)


def show_tablet(tablet):
    """The text of a tablet: a row of its columns and their forms, and its rows."""
    heads = [f"{name}:{wholes}:{parts}" for name, (wholes, parts) in zip(tablet.names(), tablet.forms())]
    return "\n".join([" ".join(row) for row in [heads] + tablet.rows()])


def form_of(word):
    """The tuple (name, wholes, parts) of a word NAME:WHOLES:PARTS; None of what isn't such three parts."""
    parts = word.split(":")
    if len(parts) != 3:
        return None
    numbers = [whole_of(part) for part in parts[1:]]
    if None in numbers:
        return None
    return (parts[0], numbers[0], numbers[1])


def read_tablet(text):
    """The tablet of a text that show_tablet can tell."""
    if not isinstance(text, str):
        raise NoText(None)
    head, *rows = text.split("\n")
    heads = [form_of(word) for word in head.split(" ")]
    if None in heads:
        raise NoText(0)
    names = [name for name, _, _ in heads]
    forms = [(wholes, parts) for _, wholes, parts in heads]
    tablet = _tablet_of(names, forms, [row.split(" ") for row in rows[:MOST_TABLET_ROWS]])
    if len(rows) > MOST_TABLET_ROWS:
        raise NoText(MOST_TABLET_ROWS + 1)
    return tablet


def _tablet_of(names, forms, rows):
    """The tablet of names, forms and rows; refused is the number of the row of its text that isn't so."""
    try:
        return Tablet(names=names, forms=forms, rows=rows)
    except NoTablet as refusal:
        why = refusal.why
    if why in ("names", "forms"):
        raise NoText(0)
    # Behind the first row of the text the rows are counted from 1, the first one where there is none.
    raise NoText(1 if why == "rows" else why[0] + 1)
