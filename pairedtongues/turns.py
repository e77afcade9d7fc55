"""Orders of holes: how they turn, which of them have trees, and books with rules split along these."""

from pairedtongues.books import need_book
from pairedtongues.bounds import MOST_RULES, MOST_SORTS, MOST_WORDS
from pairedtongues.errors import BadOrder, TooMany
from pairedtongues.needs import need_number
from pairedtongues.orders import rule_order, tree_of, turned_round, word_between
from pairedtongues.plain import is_integer, is_one_of, is_tuple
from pairedtongues.splitting import further_holes, split_rules

WORDS = ("keep", "turn")


def need_order(thing):
    """Raises BadOrder for what is no order."""
    if not is_tuple(thing, 1, MOST_WORDS) or not all([is_integer(number) for number in thing]):
        raise BadOrder("an order is a tuple of one to eight numbers")
    if sorted(thing) != list(range(len(thing))):
        raise BadOrder("an order has each number from 0 on once")


def order_of(book, number):
    """The order of the holes of a rule, () for a rule without holes."""
    need_book(book)
    need_number(book, number)
    return rule_order(book[4][number])


def inversions(order):
    """How many pairs stand the other way round."""
    need_order(order)
    return turned_round(order)


def split_tree(order):
    """The tree of an order in which each first tree has as few places as it can; None if there is none."""
    need_order(order)
    return tree_of(order)


def split_holds(order, thing):
    """Whether any object is a tree of the whole order."""
    need_order(order)
    return end_of_tree(order, thing, 0) == len(order)


def end_of_tree(order, thing, begin):
    """The place behind the tree that the thing is from this place on, None if it is none."""
    if is_integer(thing):
        return begin + 1 if thing == begin and begin < len(order) else None
    if not is_tuple(thing, 3, 3) or not is_one_of(thing[0], WORDS):
        return None
    word, first, second = thing
    middle = end_of_tree(order, first, begin)
    if middle is None:
        return None
    end = end_of_tree(order, second, middle)
    if end is None or word_between(order[begin:middle], order[middle:end]) != word:
        return None
    return end


def bar_of(order):
    """The first four places that keep the order from having a tree, None if there are none."""
    need_order(order)
    places = range(len(order))
    for first in places:
        for second in range(first + 1, len(order)):
            for third in range(second + 1, len(order)):
                for fourth in range(third + 1, len(order)):
                    if is_bar(order[first], order[second], order[third], order[fourth]):
                        return (first, second, third, fourth)
    return None


def is_bar(first, second, third, fourth):
    """Whether the four numbers stand to each other as 1, 3, 0, 2 or as 2, 0, 3, 1."""
    return third < first < fourth < second or second < fourth < first < third


def split_book(book):
    """A book with as many papers for every two texts, whose rules with trees have at most two holes."""
    need_book(book)
    features, marks, sorts, start, rules = book
    further = sum([further_holes(rule) for rule in rules])
    if len(sorts) + further > MOST_SORTS or len(rules) + further > MOST_RULES:
        raise TooMany("the sorts or rules would be too many")
    split_sorts = [(name, "set", left, right) for name, _, left, right in sorts]
    further_sorts, all_rules = split_rules(book)
    return (features, marks, tuple([*split_sorts, *further_sorts]), start, tuple(all_rules))
