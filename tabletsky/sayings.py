"""The lines that a desk can be told: their first words, and what stands behind these."""

from tabletsky.errors import NoLine
from tabletsky.kinds import is_name
from tabletsky.words import whole_of, worth_of
from tabletsky.writing import form_of

# By first words, of what kind what stands behind each of them is: the name by which a thing, a table or a
# tablet stands on the desk (thing, table, piece), or anything, of which but the name is asked (name); a name
# that may be new; a whole number; a worth; any word; all words to the end, forms; and a text behind a line feed.
SHAPES = {
    "names": (),
    "kind": ("thing",),
    "show": ("thing",),
    "row": ("table", "whole"),
    "stands": ("piece", "table"),
    "least": ("piece", "table"),
    "part": ("table", "table"),
    "dark": ("table", "word", "worth", "worth", "whole"),
    "table": ("new", "text"),
    "piece": ("new", "text"),
    "cut": ("new", "table", "whole", "whole", "forms"),
    "fill": ("new", "piece", "table", "whole"),
    "sure": ("new", "piece", "table"),
    "mend": ("new", "piece", "table", "whole"),
    "tear": ("new", "piece", "whole", "whole"),
    "join": ("new", "piece", "piece", "whole"),
    "lose": ("new", "piece", "whole", "word", "whole"),
    "drop": ("name",),
}


def _forms_of(words):
    """The tuples (name, wholes, parts) of words; None where one of them is none."""
    forms = [form_of(word) for word in words]
    return None if None in forms else forms


def _value_of(kind, word):
    """What a word tells, where it is to be of a kind."""
    value = word
    if kind == "new" and not is_name(word):
        value = None
    elif kind == "whole":
        value = whole_of(word)
    elif kind == "worth":
        value = worth_of(word)
    elif kind == "forms":
        value = _forms_of(word)
    if value is None:
        raise NoLine("a word isn't written as it is to be")
    return value


def parsed(line):
    """The tuple (first word, kinds of what stands behind it, these values) of a line."""
    if not isinstance(line, str):
        raise NoLine("a line is a text")
    head, mark, text = line.partition("\n")
    first, *words = head.split(" ")
    if first not in SHAPES:
        raise NoLine("no line begins with this word")
    kinds = SHAPES[first]
    if ("text" in kinds) != (mark == "\n"):
        raise NoLine("a line feed and a text stand behind table and piece alone")
    if mark:
        words.append(text)
    if "forms" in kinds and len(words) >= len(kinds):
        # All words from the first form on are forms.
        many = len(kinds) - 1
        words = words[:many] + [words[many:]]
    if len(words) != len(kinds):
        raise NoLine("there are more words, or fewer ones")
    return first, kinds, [_value_of(kind, word) for kind, word in zip(kinds, words)]
