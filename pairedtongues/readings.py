"""Readings of the texts of one side, and what shows that a text has none."""

from pairedtongues.books import need_book, need_side, side_items
from pairedtongues.bounds import MOST_ENTRIES, MOST_WORDS
from pairedtongues.charts import all_spots, filled, is_closed, spots_on, values_on
from pairedtongues.errors import BadReading, TooMany
from pairedtongues.forests import reading_forest, reading_steps, trees_of_text
from pairedtongues.lines import no_layouts, side_words, text_line
from pairedtongues.masks import either_mask, full_mask, has_bit, joined_mask, shared_mask
from pairedtongues.needs import need_text
from pairedtongues.tables import table_of
from pairedtongues.trees import texts_made


def need_text_on(book, side, text):
    """Raises the first error for a book, a side and a text."""
    need_book(book)
    need_side(side)
    need_text(text)


def text_read(book, side, thing):
    """The text of a reading of the start sort; raises BadReading for what is none."""
    texts = texts_made(book, (side,), (side,), thing)
    if texts is None:
        raise BadReading("this is no reading of a text")
    return texts[0]


def readings(book, side, text):
    """The ascending list of the readings of a text."""
    need_text_on(book, side, text)
    return trees_of_text(book, reading_forest(book, side, text_line(text)), text)


def count_readings(book, side, text):
    """How many readings a text has, however many."""
    need_text_on(book, side, text)
    forest = reading_forest(book, side, text_line(text))
    return forest.total(forest.spots(book[3], (0, len(text))))


def reading_holds(book, side, text, thing):
    """Whether any object is a reading of the text."""
    need_text_on(book, side, text)
    return texts_made(book, (side,), (side,), thing) == (text,)


def read_by(book, side, thing):
    """The text that a reading of the start sort reads."""
    need_book(book)
    need_side(side)
    return text_read(book, side, thing)


def stretch_entries(forest):
    """The ascending list of (begin, end, sort, form) of all that the forest has."""
    return sorted([(*whole, *category) for whole, category, _ in all_spots(forest.counts)])


def stretches(book, side, text):
    """The ascending list of the stretches of a text."""
    need_text_on(book, side, text)
    return stretch_entries(reading_forest(book, side, text_line(text)))


def no_reading_paper(book, side, text):
    """The least closed table of a text that has no reading, None if it has one."""
    need_text_on(book, side, text)
    forest = reading_forest(book, side, text_line(text))
    entries = stretch_entries(forest)
    if len(entries) > MOST_ENTRIES:
        raise TooMany("there are more than two thousand stretches")
    return None if forest.spots(book[3], (0, len(text))) else entries


def no_reading_holds(book, side, text, thing):
    """Whether any object is a closed table for the text that has no entry for a reading of it."""
    need_text_on(book, side, text)
    table = table_of(book, (side,), (len(text),), thing)
    if table is None or spots_on(table, book[3], (0, len(text))):
        return False
    return is_closed(table, reading_steps(book, side, text_line(text)), no_layouts(book))


def goes_on(book, side, text):
    """Whether a text of at most eight words that has a reading begins with this one, or is it."""
    need_text_on(book, side, text)
    return begins_so(begun_masks(book, side, text), len(text))


def first_wrong(book, side, text):
    """The place of the first word with which the text does not go on, None if it has a reading."""
    need_text_on(book, side, text)
    masks = begun_masks(book, side, text)
    if has_bit(masks[len(text)], len(text)):
        return None
    wrong = [place for place in range(len(text)) if not begins_so(masks, place + 1)]
    return min(wrong, default=len(text))


def begins_so(masks, many):
    """Whether a text of so many words or more begins with the first words; masks as begun_masks gives them."""
    return any([has_bit(mask, many) for mask in masks[many:]])


def begun_masks(book, side, text):
    """For each number of words up to eight a mask: its bit k tells whether some text of so many words
    has a reading and begins with the first k words of this text.

    A mask is found for each stretch of eight places: its bit k tells of the
    case in which the first k places have their words and all others any word.
    """
    words = [side_words(side_items(rule, side)) for rule in book[4]]

    def begun(step, other, values):
        use, layout = step
        mask = shared_mask(full_mask(len(text) + 1), values)
        for word, place in zip(words[use.number], layout.places):
            if place < len(text) and word != text[place]:
                # This word can stand here only where the place is left open.
                mask = mask & full_mask(place + 1)
        return mask

    steps = reading_steps(book, side, text_line((None,) * MOST_WORDS))
    table = filled(steps, no_layouts(book), begun, either_mask)
    masks = [0]
    for size in range(1, MOST_WORDS + 1):
        masks.append(joined_mask(values_on(table, book[3], (0, size))))
    return masks
