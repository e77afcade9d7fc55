"""The texts and pairs that are nearest to given texts, and those that fill gaps."""

from pairedtongues.books import need_book, need_side, side_items
from pairedtongues.bounds import MOST_WORDS
from pairedtongues.charts import filled, values_on
from pairedtongues.distances import distance, near_both, near_nothing, near_word, nearer_of
from pairedtongues.forests import reading_forest, reading_steps, trees_of_text
from pairedtongues.lines import free_line, is_item_word, no_layouts, text_line
from pairedtongues.needs import need_count, need_gapped
from pairedtongues.pairs import need_texts, pair_spots, pairs_made, small_pairs, text_forest, together
from pairedtongues.readings import need_text_on
from pairedtongues.trees import words_made


def nearest(book, side, text):
    """How far the nearest texts with a reading are from the text, and the first of these, shortest first; or None."""
    need_text_on(book, side, text)
    nothing = near_nothing(text)

    def near_items(step, other, values):
        # Of all words that a spot can have, as many for each hole, the nearest whole has the nearest ones in each hole.
        near = nothing
        for item in side_items(book[4][step[0].number], side):
            near = near_both(text, near, near_word(text, item) if is_item_word(item) else values[item])
        return near

    table = filled(reading_steps(book, side, free_line(MOST_WORDS)), no_layouts(book), near_items, nearer_of)
    wholes = [whole for size in range(1, MOST_WORDS + 1) for whole in values_on(table, book[3], (0, size))]
    found = [whole[(0, len(text))] for whole in wholes]
    return min(found, key=lambda entry: (entry[0], len(entry[1]), entry[1]), default=None)


def nearest_pair(book, left, right, count):
    """How far the nearest small pairs are from two texts, and the first of these; None if there is none."""
    need_texts(book, left, right)
    need_count(count, 1)
    found = [
        (distance(left, pair[0]) + distance(right, pair[1]), together(pair), pair) for pair in small_pairs(book, count)
    ]
    if not found:
        return None
    number, _, pair = min(found)
    return (number, *pair)


def fillings(book, side, gapped):
    """The ascending list of the texts with a reading that have the words of a gapped text at their places."""
    need_book(book)
    need_side(side)
    need_gapped(gapped)
    trees = trees_of_text(book, reading_forest(book, side, text_line(gapped)), gapped)
    return sorted({words_made(book, side, tree) for tree in trees})


def need_both_gapped(book, left, right):
    """Raises the first error for a book and two gapped texts."""
    need_book(book)
    need_gapped(left)
    need_gapped(right)


def pair_fillings(book, left, right):
    """The ascending list of the pairs that have the words of two gapped texts at their places."""
    need_both_gapped(book, left, right)
    forest = text_forest(book, left, right)
    return pairs_made(book, forest.few_trees(pair_spots(book, forest.counts, left, right)))


def sure_words(book, left, right):
    """The two gapped texts with each gap filled that all pairs which fit fill alike, None if no pair fits."""
    pairs = pair_fillings(book, left, right)
    if not pairs:
        return None
    return (surely_filled([pair[0] for pair in pairs]), surely_filled([pair[1] for pair in pairs]))


def surely_filled(texts):
    """The words that all these texts, which have as many words, have at their places, None at all other places."""
    first = texts[0]
    return tuple([
        word if all([text[place] == word for text in texts]) else None for place, word in enumerate(first)
    ])


def count_fillings(book, left, right):
    """How many papers the pairs have that fit two gapped texts, however many."""
    need_both_gapped(book, left, right)
    forest = text_forest(book, left, right)
    return forest.total(pair_spots(book, forest.counts, left, right))
