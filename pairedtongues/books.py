"""What a book of paired rules is, and what is plain to see in it."""

from pairedtongues.bounds import (
    MOST_FEATURES,
    MOST_HOLES,
    MOST_ITEMS,
    MOST_MARKS,
    MOST_RULES,
    MOST_SORT_FEATURES,
    MOST_SORTS,
    MOST_VALUES,
)
from pairedtongues.categories import are_categories, sorts_by_name, values_by_feature
from pairedtongues.errors import BadBook, BadSide
from pairedtongues.plain import are_names, is_integer, is_name, is_one_of, is_side, is_tuple, is_word
from pairedtongues.terms import is_kind, is_meaning


def is_book(thing):
    """Whether it is a book."""
    if not is_tuple(thing, 5, 5):
        return False
    features, marks, sorts, start, rules = thing
    if not are_features(features) or not are_names(marks, 0, MOST_MARKS):
        return False
    values = values_by_feature(features)
    if not are_sorts(sorts, values):
        return False
    known = sorts_by_name(sorts)
    return is_one_of(start, known) and are_rules(rules, marks, values, known)


def need_book(thing):
    """Raises BadBook for what is no book."""
    if not is_book(thing):
        raise BadBook("this is no book")


def need_side(thing):
    """Raises BadSide for what is no side."""
    if not is_side(thing):
        raise BadSide("a side is left or right")


def names_differ(things):
    """Whether no two of the things, each with its name ahead, have the same name."""
    return len(set([thing[0] for thing in things])) == len(things)


def are_features(thing):
    """Whether these are the features of a book."""
    if not is_tuple(thing, 0, MOST_FEATURES) or not all([is_feature(entry) for entry in thing]):
        return False
    return names_differ(thing)


def is_feature(thing):
    """Whether it is a feature with its values."""
    return is_tuple(thing, 2, 2) and is_name(thing[0]) and are_names(thing[1], 1, MOST_VALUES)


def are_sorts(thing, values):
    """Whether these are the sorts of a book whose features have these values."""
    if not is_tuple(thing, 1, MOST_SORTS) or not all([is_sort(entry, values) for entry in thing]):
        return False
    return names_differ(thing)


def is_sort(thing, values):
    """Whether it is a sort over these features."""
    if not is_tuple(thing, 4, 4):
        return False
    name, kind, left, right = thing
    if not is_name(name) or not is_kind(kind):
        return False
    return are_sort_features(left, values) and are_sort_features(right, values)


def are_sort_features(thing, values):
    """Whether these are the features of a sort on one side."""
    return is_tuple(thing, 0, MOST_SORT_FEATURES) and all([is_one_of(entry, values) for entry in thing])


def are_rules(thing, marks, values, sorts):
    """Whether these are the rules of a book with these marks, features and sorts."""
    if not is_tuple(thing, 1, MOST_RULES) or not all([is_rule(entry, marks, values, sorts) for entry in thing]):
        return False
    return names_differ(thing)


def is_rule(thing, marks, values, sorts):
    """Whether it is a rule."""
    if not is_tuple(thing, 7, 7):
        return False
    name, head, holes, left, right, left_meaning, right_meaning = thing
    if not is_name(name) or not is_tuple(holes, 0, MOST_HOLES):
        return False
    if not are_categories((head, *holes), values, sorts):
        return False
    if not are_items(left, len(holes)) or not are_items(right, len(holes)):
        return False
    kind = sorts[head[0]][0]
    hole_kinds = [sorts[hole[0]][0] for hole in holes]
    if not is_meaning(left_meaning, kind, marks, hole_kinds):
        return False
    return is_meaning(right_meaning, kind, marks, hole_kinds)


def are_items(thing, many):
    """Whether these are the items of a side of a rule with so many holes."""
    if not is_tuple(thing, 1, MOST_ITEMS):
        return False
    numbers = [item for item in thing if not is_word(item)]
    if not all([is_integer(number) for number in numbers]):
        return False
    return sorted(numbers) == list(range(many)) and thing != (0,)


def side_items(rule, side):
    """The items of a rule on a side."""
    return rule[3] if side == "left" else rule[4]


def side_meaning(rule, side):
    """The meaning of a rule on a side."""
    return rule[5] if side == "left" else rule[6]


def words_of(book, side):
    """The ascending list of the words on a side."""
    need_book(book)
    need_side(side)
    return sorted({item for rule in book[4] for item in side_items(rule, side) if is_word(item)})


def turned(book):
    """The book with left and right exchanged everywhere."""
    need_book(book)
    features, marks, sorts, start, rules = book
    turned_sorts = tuple([(name, kind, right, left) for name, kind, left, right in sorts])
    return (features, marks, turned_sorts, start, tuple([turned_rule(rule) for rule in rules]))


def turned_rule(rule):
    """The rule with left and right exchanged."""
    name, head, holes, left, right, left_meaning, right_meaning = rule
    turned_holes = tuple([turned_category(hole) for hole in holes])
    return (name, turned_category(head), turned_holes, right, left, right_meaning, left_meaning)


def turned_category(category):
    """The category with left and right exchanged."""
    sort, left, right = category
    return (sort, right, left)


def widest(book):
    """The greatest number of holes of a rule."""
    need_book(book)
    return max([len(rule[2]) for rule in book[4]])
