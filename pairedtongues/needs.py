"""What many functions need of their arguments: each of these raises the error that is named for it."""

from pairedtongues.bounds import MOST_WORDS
from pairedtongues.errors import BadCount, BadName, BadNumber, BadText
from pairedtongues.plain import is_integer, is_one_of, is_text


def need_text(thing):
    """Raises BadText for what is no text."""
    if not is_text(thing):
        raise BadText("a text is a tuple of one to eight words")


def need_number(book, thing):
    """Raises BadNumber for what is not the number of a rule of the book."""
    if not is_integer(thing) or not 0 <= thing < len(book[4]):
        raise BadNumber("the book has no rule of this number")


def need_sort(book, thing):
    """Raises BadName for what is not the name of a sort of the book."""
    if not is_one_of(thing, [sort[0] for sort in book[2]]):
        raise BadName("the book has no sort of this name")


def need_count(thing, least):
    """Raises BadCount for what is no integer from this least one to eight."""
    if not is_integer(thing) or not least <= thing <= MOST_WORDS:
        raise BadCount(f"a count is an integer from {least} to {MOST_WORDS} here")
