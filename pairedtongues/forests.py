"""The steps and forests for texts of one side, and for texts of both sides."""

from pairedtongues.charts import Forest, steps_of
from pairedtongues.lines import layouts_by_rule, no_layouts
from pairedtongues.plain import SIDES
from pairedtongues.uses import other_side, uses_of


def reading_steps(book, side, line):
    """The steps of readings on a side."""
    return steps_of(uses_of(book, (side,)), layouts_by_rule(book, side, line))


def reading_forest(book, side, line):
    """The readings of what lies on the line on a side."""
    return Forest(reading_steps(book, side, line), no_layouts(book))


def loose_forest(book, side, line):
    """The loose readings of what lies on the line on a side."""
    return Forest(steps_of(uses_of(book, ()), layouts_by_rule(book, side, line)), no_layouts(book))


def paper_steps(book, side, line):
    """The steps of papers whose one side lies on the line."""
    return steps_of(uses_of(book, SIDES), layouts_by_rule(book, side, line))


def paper_forest(book, side, line, other_line):
    """The papers that have this side on the first line, and the other side on the other one."""
    return Forest(paper_steps(book, side, line), layouts_by_rule(book, other_side(side), other_line))


def trees_of_text(book, forest, text):
    """The ascending list of the trees of the start sort for the whole text."""
    return forest.few_trees(forest.spots(book[3], (0, len(text))))


def spots_up_to(book, forest, count):
    """The spots of trees of the start sort for texts of at most so many words, on a free line."""
    return [spot for size in range(1, count + 1) for spot in forest.spots(book[3], (0, size))]
