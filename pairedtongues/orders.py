"""Numbers that stand the other way round; orders of holes and their trees."""

from pairedtongues.lines import is_item_word


def turned_round(numbers):
    """For how many two places the number at the first one is greater than that at the second one."""
    if len(numbers) < 2:
        return 0
    middle = len(numbers) // 2
    first, second = numbers[:middle], numbers[middle:]
    return turned_round(first) + turned_round(second) + greater_ones(sorted(first), sorted(second))


def greater_ones(first, second):
    """For how many pairs a number of the first list is greater than one of the second; both ascend."""
    pairs = 0
    passed = 0
    for number in second:
        while passed < len(first) and first[passed] <= number:
            passed += 1
        pairs += len(first) - passed
    return pairs


def holes_in(items):
    """The numbers of the holes among the items of a side, in their sequence."""
    return [item for item in items if not is_item_word(item)]


def rule_order(rule):
    """For each hole on the left, in their sequence there, its place among those on the right."""
    right = holes_in(rule[4])
    return tuple([right.index(hole) for hole in holes_in(rule[3])])


def tree_of(order):
    """The tree of an order in which each first tree has as few places as it can; None if there is none."""
    return tree_between(order, 0, len(order))


def tree_between(order, begin, end):
    """Such a tree of the places from begin to below end."""
    if end - begin == 1:
        return begin
    for middle in range(begin + 1, end):
        word = word_between(order[begin:middle], order[middle:end])
        if word is not None:
            # A whole that has a tree has one for each part of each cut that fits: the first such cut is the one.
            first = tree_between(order, begin, middle)
            second = tree_between(order, middle, end)
            return None if first is None or second is None else (word, first, second)
    return None


def word_between(first, second):
    """The word for two trees with these numbers, side by side; None if no tree can join them.

    Either the numbers of both are consecutive, or those of both together are:
    so it is enough to see whether the numbers of the two are neighbours.
    """
    if max(first) + 1 == min(second):
        return "keep"
    return "turn" if max(second) + 1 == min(first) else None
