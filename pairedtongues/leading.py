"""Texts led from one tongue into the other."""

from pairedtongues.books import need_book, need_side, side_items
from pairedtongues.charts import Forest, filled, values_on
from pairedtongues.errors import NoPair
from pairedtongues.forests import paper_steps, reading_forest, trees_of_text
from pairedtongues.leaders import Leader, free_layouts
from pairedtongues.lines import no_layouts, text_line
from pairedtongues.needs import need_count
from pairedtongues.pairs import is_pair, texts_paired
from pairedtongues.plain import SIDES
from pairedtongues.readings import need_text_on, text_read
from pairedtongues.trees import spelled, tree_layouts
from pairedtongues.uses import other_side, side_label, uses_of


def turned_papers(book, side, reading):
    """The ascending list of the papers of two texts that have this reading on that side."""
    need_book(book)
    need_side(side)
    text = text_read(book, side, reading)
    forest = Forest(steps_along(book, side, reading), free_layouts(book, other_side(side)))
    return trees_of_text(book, forest, text)


def steps_along(book, side, reading):
    """The steps of the papers that have this reading on the side."""
    uses = {}
    for use in uses_of(book, SIDES):
        uses.setdefault(side_label(book, side, use.label), []).append(use)
    return [(use, layout) for _, node, layout in tree_layouts(book, side, reading) for use in uses[node[:2]]]


def led(book, side, text):
    """The texts of the other side with which the text is a pair, shortest first."""
    need_text_on(book, side, text)
    return Leader(book).texts(side, text)


def first_led(book, side, text):
    """The first of the texts to which the text is led, however many they are; None if there are none."""
    need_text_on(book, side, text)
    other = other_side(side)

    def least_words(step, other_layout, values):
        # Of all words that a spot can have, as many for each hole, the least are those of the least ones.
        return spelled(side_items(book[4][step[0].number], other), values)

    table = filled(paper_steps(book, side, text_line(text)), free_layouts(book, other), least_words, lesser_words)
    found = values_on(table, book[3], (0, len(text)))
    return min(found, key=lambda words: (len(words), words), default=None)


def lesser_words(words, further):
    """The lesser of two sequences of words."""
    return min(words, further)


def count_led_papers(book, side, text):
    """How many papers the text has with texts of the other side, however many."""
    need_text_on(book, side, text)
    return Leader(book).total(side, text)


def why_not(book, side, text):
    """What is lacking for the text to be led to one, None if it is led."""
    if count_led_papers(book, side, text) > 0:
        return None
    whole = (0, len(text))
    if not reading_forest(book, side, text_line(text)).spots(book[3], whole):
        return "reading"
    endless = Forest(paper_steps(book, side, text_line(text)), no_layouts(book))
    return "long" if endless.spots(book[3], whole) else "forms"


def written(book, side, thing):
    """The text of a paper on a side."""
    need_book(book)
    need_side(side)
    left, right = texts_paired(book, thing)
    return left if side == "left" else right


def led_between(book, side, text, count, other):
    """The texts of at least and at most so many words to which the text is led, shortest first."""
    need_text_on(book, side, text)
    need_count(count, 1)
    need_count(other, count)
    return Leader(book).texts(side, text, count, other)


def kept_words(book, left, right):
    """The ascending tuple of the words that stand in both texts of a pair."""
    if not is_pair(book, left, right):
        raise NoPair("the two texts are no pair")
    return tuple(sorted({word for word in left if word in right}))
