"""The steps and forests for texts of one side, and for texts of both sides; the trees of small texts."""

from pairedtongues.charts import Forest, steps_of
from pairedtongues.lines import free_line, layouts_by_rule, no_layouts
from pairedtongues.plain import SIDES
from pairedtongues.uses import other_side, uses_of


def reading_steps(book, side, line):
    """The steps of readings on a side."""
    return steps_of(uses_of(book, (side,)), layouts_by_rule(book, side, line))


def reading_forest(book, side, line):
    """The readings of what lies on the line on a side."""
    return Forest(reading_steps(book, side, line), no_layouts(book))


def loose_forest(book, side, line):
    """The loose readings of what lies on the line on a side."""
    return Forest(steps_of(uses_of(book, ()), layouts_by_rule(book, side, line)), no_layouts(book))


def paper_steps(book, side, line):
    """The steps of papers whose one side lies on the line."""
    return steps_of(uses_of(book, SIDES), layouts_by_rule(book, side, line))


def paper_forest(book, side, line, other_line):
    """The papers that have this side on the first line, and the other side on the other one."""
    return Forest(paper_steps(book, side, line), layouts_by_rule(book, other_side(side), other_line))


def trees_of_text(book, forest, text):
    """The ascending list of the trees of the start sort for the whole text."""
    return forest.few_trees(forest.spots(book[3], (0, len(text))))


def spots_up_to(book, forest, count):
    """The spots of trees of the start sort for texts of at most so many words, on a free line."""
    return [spot for size in range(1, count + 1) for spot in forest.spots(book[3], (0, size))]


def small_readings(book, side, count):
    """The ascending list of the readings of texts of at most so many words."""
    forest = reading_forest(book, side, free_line(count))
    return forest.few_trees(spots_up_to(book, forest, count))


def small_papers(book, count):
    """The ascending list of the papers of pairs of at most so many words on each side."""
    forest = paper_forest(book, "left", free_line(count), free_line(count))
    return forest.few_trees(spots_up_to(book, forest, count))
