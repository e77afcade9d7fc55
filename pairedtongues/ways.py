"""The ways to make examples pairs: for each of them the rules of one of its papers.

A row has the unlike tuples of numbers of rules that the papers of one example
give, ascending; rows has one for each example. The rules of a whole way are
meant by the mask of their numbers.
"""

from pairedtongues.bounds import MOST_EXAMPLE_PAPERS, MOST_RULES, MOST_WAYS
from pairedtongues.charts import filled, value_at
from pairedtongues.errors import TooMany
from pairedtongues.forests import paper_steps
from pairedtongues.lines import layouts_by_rule, text_line
from pairedtongues.masks import bits_in, both_mask, full_mask, joined_mask, mask_of, shared_mask, within
from pairedtongues.pairs import pair_spots, text_forest
from pairedtongues.plain import is_integer, is_tuple
from pairedtongues.trees import rules_in


def rows_of(book, examples):
    """The rows of the examples; raises TooMany for too many papers or ways."""
    rows = [row_of(book, left, right) for left, right in examples]
    many = 1
    for row in rows:
        many = many * max(len(row), 1)
    if many > MOST_WAYS:
        raise TooMany("there are more than two thousand ways to choose papers of all the examples")
    return rows


def row_of(book, left, right):
    """The unlike tuples of numbers that the papers of two texts give, ascending."""
    forest = text_forest(book, left, right)
    spots = pair_spots(book, forest.counts, left, right)
    if forest.total(spots) > MOST_EXAMPLE_PAPERS:
        raise TooMany("an example has more than two hundred papers")
    return sorted({rules_in(paper) for paper in forest.few_trees(spots)})


def sure_mask(book, left, right):
    """The mask of the rules that stand in all papers of two texts, None if there is no paper."""
    others = layouts_by_rule(book, "right", text_line(right))
    table = filled(paper_steps(book, "left", text_line(left)), others, rules_in_all, both_mask)
    masks = [value_at(table, spot) for spot in pair_spots(book, table, left, right)]
    return shared_mask(full_mask(MOST_RULES), masks) if masks else None


def rules_in_all(step, other, values):
    """The mask of the rules in all trees that begin with this step.

    The trees of the holes vary freely, so that all trees of the whole have,
    besides its own rule, just what all trees of one of the holes have.
    """
    return joined_mask([1 << step[0].number, *values])


def numbers_in(mask):
    """The ascending tuple of the numbers of rules in the mask."""
    return tuple(bits_in(mask, MOST_RULES))


def all_ways(rows):
    """The masks of all ways, each once; none if an example has no paper."""
    found = [0]
    for row in rows:
        masks = [mask_of(numbers) for numbers in row]
        found = list({mask | further: True for mask in found for further in masks})
    return found


def least_ways(rows):
    """The masks of the ways in which no other way is."""
    kept = []
    # What is in another mask is a lesser number than it, so that it stands ahead of it.
    for mask in sorted(all_ways(rows)):
        if not any([within(least, mask) for least in kept]):
            kept.append(mask)
    return kept


def is_done(row, chosen):
    """Whether the example of the row is a pair of the part with the chosen rules."""
    return any([within(mask_of(numbers), chosen) for numbers in row])


def branching(rows, count, chosen):
    """The branching paper with these rules chosen already, fewer than count, with which some example is not done."""
    index = [is_done(row, chosen) for row in rows].index(False)
    branches = []
    for numbers in rows[index]:
        further = chosen | mask_of(numbers)
        paper = None if is_full(further, count) else branching(rows, count, further)
        branches.append((numbers, paper))
    return (index, tuple(branches))


def is_full(chosen, count):
    """Whether the chosen rules are so many or more."""
    return len(numbers_in(chosen)) >= count


def is_branching(rows, count, chosen, thing):
    """Whether any object is a branching paper with these rules chosen already."""
    if not is_tuple(thing, 2, 2) or not is_integer(thing[0]) or not 0 <= thing[0] < len(rows):
        return False
    index, branches = thing
    row = rows[index]
    if not is_tuple(branches, len(row), len(row)):
        return False
    for numbers, branch in zip(row, branches):
        if not is_branch(rows, count, chosen, numbers, branch):
            return False
    return True


def is_branch(rows, count, chosen, numbers, thing):
    """Whether any object is the branch for these numbers of a branching paper with these rules chosen already."""
    if not is_tuple(thing, 2, 2) or not are_numbers(thing[0], numbers):
        return False
    further = chosen | mask_of(numbers)
    paper = thing[1]
    if is_full(further, count) or paper is None:
        return is_full(further, count) and paper is None
    return is_branching(rows, count, further, paper)


def are_numbers(thing, numbers):
    """Whether any object is just this tuple of numbers."""
    if not is_tuple(thing, len(numbers), len(numbers)) or not all([is_integer(entry) for entry in thing]):
        return False
    return thing == numbers
