"""Whole numbers and worths as words of a text."""

from tabletsky.kinds import FIGURES
from tabletsky.sixties import is_worth


def worth_word(thing):
    """The word of a worth."""
    top, bottom = thing
    return f"{top}" if bottom == 1 else f"{top}/{bottom}"


def _are_figures(text):
    """Whether a text is figures, without a 0 ahead but in 0 itself."""
    # isdigit would take figures of other scripts, too.
    if not text or not all([sign in FIGURES for sign in text]):
        return False
    return text == "0" or text[0] != "0"


def whole_of(text):
    """The whole number of a word; None of what is none."""
    figures = text[1:] if text.startswith("-") else text
    if not _are_figures(figures) or text == "-0":
        return None
    return int(text)


def worth_of(text):
    """The worth of a word; None of what is none."""
    head, mark, tail = text.partition("/")
    top = whole_of(head)
    if not mark:
        return None if top is None else (top, 1)
    bottom = whole_of(tail)
    # A bottom of 1 isn't written.
    if bottom == 1 or not is_worth((top, bottom)):
        return None
    return (top, bottom)
