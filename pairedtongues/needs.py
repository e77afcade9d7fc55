"""What many functions need of their arguments: each of these raises the error that is named for it."""

from pairedtongues.bounds import MOST_WORDS
from pairedtongues.categories import sorts_by_name
from pairedtongues.errors import BadCount, BadKind, BadName, BadNumber, BadText
from pairedtongues.plain import is_gapped, is_integer, is_one_of, is_text


def need_text(thing):
    """Raises BadText for what is no text."""
    if not is_text(thing):
        raise BadText("a text is a tuple of one to eight words")


def need_gapped(thing):
    """Raises BadText for what is no gapped text."""
    if not is_gapped(thing):
        raise BadText("a gapped text is a tuple of one to eight words and Nones")


def need_truth(book):
    """Raises BadKind for a book whose start sort is not of the kind truth."""
    kind, _, _ = sorts_by_name(book[2])[book[3]]
    if kind != "truth":
        raise BadKind("the start sort is not of the kind truth")


def need_number(book, thing):
    """Raises BadNumber for what is not the number of a rule of the book."""
    if not is_integer(thing) or not 0 <= thing < len(book[4]):
        raise BadNumber("the book has no rule of this number")


def need_sort(book, thing):
    """Raises BadName for what is not the name of a sort of the book."""
    if not is_one_of(thing, [sort[0] for sort in book[2]]):
        raise BadName("the book has no sort of this name")


def need_count(thing, least, most=MOST_WORDS):
    """Raises BadCount for what is no integer from this least one to this greatest one."""
    if not is_integer(thing) or not least <= thing <= most:
        raise BadCount(f"a count is an integer from {least} to {most} here")
