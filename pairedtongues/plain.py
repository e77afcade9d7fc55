"""The plain things that books and texts are made of.

Each of these functions takes any object and raises nothing: no object is
compared with another one before it is known to be a str or an integer.
"""

from pairedtongues.bounds import MOST_LETTERS, MOST_WORDS

SMALL_LETTERS = "abcdefghijklmnopqrstuvwxyz"
NAME_LETTERS = "abcdefghijklmnopqrstuvwxyz0123456789"
GREAT_LETTERS = "ABCDEFGHIJKLMNOPQRSTUVWXYZ"
SIDES = ("left", "right")


def is_integer(thing):
    """Whether it is an int that is not a bool."""
    return isinstance(thing, int) and not isinstance(thing, bool)


def is_tuple(thing, least, most):
    """Whether it is a tuple of at least and at most so many entries."""
    return isinstance(thing, tuple) and least <= len(thing) <= most


def is_one_of(thing, words):
    """Whether it is one of these strs, which are in a tuple, a list or a dict."""
    return isinstance(thing, str) and thing in words


def is_name(thing):
    """Whether it is a name."""
    if not isinstance(thing, str) or not 1 <= len(thing) <= MOST_LETTERS:
        return False
    return thing[0] in SMALL_LETTERS and all([letter in NAME_LETTERS for letter in thing])


def is_word(thing):
    """Whether it is a word; words have the form of names."""
    return is_name(thing)


def is_variable(thing):
    """Whether it is a variable."""
    return isinstance(thing, str) and len(thing) == 1 and thing in GREAT_LETTERS


def is_side(thing):
    """Whether it is one of the two sides."""
    return is_one_of(thing, SIDES)


def is_text(thing):
    """Whether it is a text."""
    return is_tuple(thing, 1, MOST_WORDS) and all([is_word(entry) for entry in thing])


def is_gapped(thing):
    """Whether it is a gapped text."""
    return is_tuple(thing, 1, MOST_WORDS) and all([entry is None or is_word(entry) for entry in thing])


def are_names(thing, least, most):
    """Whether it is a tuple of so many names, none of them twice."""
    if not is_tuple(thing, least, most) or not all([is_name(entry) for entry in thing]):
        return False
    return len(set(thing)) == len(thing)
