"""What things are: lists and tuples of so many, names."""

LETTERS = "abcdefghijklmnopqrstuvwxyz"
FIGURES = "0123456789"
MOST_LETTERS = 8
MOST_NAMES = 12


def is_list(thing, least, most):
    """Whether a thing is a list of so many."""
    return isinstance(thing, list) and least <= len(thing) <= most


def is_tuple(thing, many):
    """Whether a thing is a tuple of so many."""
    return isinstance(thing, tuple) and len(thing) == many


def is_one_of(thing, names):
    """Whether a thing is one of these texts."""
    # What is no text could call itself the same as any, or be no key of a dict.
    return isinstance(thing, str) and thing in names


def is_name(thing):
    """Whether a thing is a text of one to eight small letters."""
    if not isinstance(thing, str) or not 1 <= len(thing) <= MOST_LETTERS:
        return False
    # islower would take letters of other scripts, too.
    return all([sign in LETTERS for sign in thing])


def are_names(thing):
    """Whether a thing is a list of 1 to 12 unlike names."""
    if not is_list(thing, 1, MOST_NAMES) or not all([is_name(name) for name in thing]):
        return False
    return len(set(thing)) == len(thing)
