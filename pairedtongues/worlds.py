"""Small worlds, and what closed terms say of them."""

from pairedtongues.books import need_book
from pairedtongues.bounds import MOST_GIVEN_TERMS, MOST_THINGS
from pairedtongues.errors import BadTerm, BadWorld
from pairedtongues.masks import bits_in
from pairedtongues.plain import is_integer, is_tuple
from pairedtongues.terms import is_closed_term
from pairedtongues.truths import Worlds, all_worlds, cells_of, worlds_with


def need_term(book, thing, kind):
    """Raises BadTerm for what is no closed term of this kind."""
    if not is_closed_term(thing, kind, book[1]):
        raise BadTerm(f"this is no closed term of the kind {kind}")


def need_world(book, thing):
    """Raises BadWorld for what is no world of the book."""
    cells = 1 << len(book[1])
    if not is_tuple(thing, cells, cells):
        raise BadWorld("a world has a number for each combination of marks")
    if not all([is_integer(number) and 0 <= number <= MOST_THINGS for number in thing]):
        raise BadWorld("the numbers of a world are 0, 1 and 2")


def worlds_of(book):
    """The list of all worlds of a book, the least first."""
    need_book(book)
    return worlds_with(len(book[1]))


def true_in(book, term, world):
    """Whether a closed term of the kind truth is true in a world."""
    need_book(book)
    need_term(book, term, "truth")
    need_world(book, world)
    return Worlds(book[1], [world]).where_true(term) == 1


def cells_in(book, term):
    """The ascending list of the indexes in a world whose things belong to a closed set term."""
    need_book(book)
    need_term(book, term, "set")
    return bits_in(cells_of(term, book[1]), 1 << len(book[1]))


def parts_apart(book, term, other):
    """The least world in which just one of two closed terms of the kind truth is true, None if there is none."""
    need_book(book)
    need_term(book, term, "truth")
    need_term(book, other, "truth")
    worlds = all_worlds(book)
    return worlds.first_of(worlds.where_true(term) ^ worlds.where_true(other))


def follows(book, terms, term):
    """The least world in which all the terms are true and the one is not, None if there is none."""
    need_book(book)
    if not is_tuple(terms, 0, MOST_GIVEN_TERMS):
        raise BadTerm("terms are a tuple of at most five of them")
    for given in terms:
        need_term(book, given, "truth")
    need_term(book, term, "truth")
    worlds = all_worlds(book)
    apart = worlds.where_not(worlds.where_true(term))
    for given in terms:
        apart = apart & worlds.where_true(given)
    return worlds.first_of(apart)
