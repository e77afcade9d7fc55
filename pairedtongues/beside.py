"""Books beside one another: rules that are needless, pairs that part two books, and two books as one."""

from pairedtongues.books import need_book
from pairedtongues.bounds import MOST_RULES
from pairedtongues.errors import BadBook, TooMany
from pairedtongues.forests import small_papers
from pairedtongues.masks import full_mask, has_bit, joined_mask, mask_of
from pairedtongues.needs import need_count
from pairedtongues.pairs import first_of_one, pair_made, small_pairs
from pairedtongues.trees import rules_in


def needless_rules(book, count):
    """The numbers of the rules each of which, left out alone, leaves the same pairs of at most so many words."""
    need_book(book)
    need_count(count, 1)
    needed = {}
    for paper in small_papers(book, count):
        pair = pair_made(book, paper)
        needed[pair] = needed.get(pair, full_mask(MOST_RULES)) & mask_of(rules_in(paper))
    needed_by_any = joined_mask(list(needed.values()))
    return tuple([number for number in range(len(book[4])) if not has_bit(needed_by_any, number)])


def books_apart(book, other, count):
    """The first pair of at most so many words on each side that is of one book alone, None if there is none."""
    need_book(book)
    need_book(other)
    need_count(count, 1)
    return first_of_one(small_pairs(book, count), small_pairs(other, count))


def joined_books(book, other):
    """The book with the rules of the first, then those of the second whose names are not among them."""
    need_book(book)
    need_book(other)
    if book[:4] != other[:4]:
        raise BadBook("the two books have unlike features, marks, sorts or starts")
    names = [rule[0] for rule in book[4]]
    rules = (*book[4], *[rule for rule in other[4] if rule[0] not in names])
    if len(rules) > MOST_RULES:
        raise TooMany("there are more than twenty-four rules")
    return (*book[:4], rules)
