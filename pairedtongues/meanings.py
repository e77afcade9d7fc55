"""What readings mean, and where meanings are kept or doubtful."""

from pairedtongues.books import need_book, need_side
from pairedtongues.bounds import MOST_MEANT_MARKS
from pairedtongues.categories import sorts_by_name
from pairedtongues.errors import TooMany
from pairedtongues.forests import small_papers, small_readings
from pairedtongues.keeping import meanings_alike, meant_marks
from pairedtongues.needs import need_count, need_number, need_text, need_truth
from pairedtongues.pairs import pair_made, shortest_first, together
from pairedtongues.readings import readings, text_read
from pairedtongues.trees import meaning_made, words_made
from pairedtongues.truths import all_worlds
from pairedtongues.worlds import need_term


def meaning(book, side, reading):
    """The closed term that a reading means."""
    need_book(book)
    need_side(side)
    text_read(book, side, reading)
    return meaning_made(book, side, reading)


def rule_keeps(book, number):
    """Whether the two meanings of a rule are alike whatever stands for its holes."""
    need_book(book)
    need_number(book, number)
    _, head, holes, _, _, left_meaning, right_meaning = book[4][number]
    head_kind, *hole_kinds = [sorts_by_name(book[2])[category[0]][0] for category in (head, *holes)]
    meanings = (left_meaning, right_meaning)
    marks = meant_marks(meanings, head_kind, hole_kinds)
    if len(marks) > MOST_MEANT_MARKS:
        raise TooMany("there are more than three marks to look at")
    return meanings_alike(meanings, head_kind, hole_kinds, marks)


def book_keeps(book, count):
    """The first small pair with a paper whose meanings part, and the least world in which they do; None without one."""
    need_book(book)
    need_truth(book)
    need_count(count, 1)
    worlds = all_worlds(book)
    told = [(pair_made(book, paper), paper) for paper in small_papers(book, count)]
    for pair, paper in sorted(told, key=by_pair):
        left_true = worlds.where_true(meaning_made(book, "left", paper))
        right_true = worlds.where_true(meaning_made(book, "right", paper))
        if left_true != right_true:
            return (*pair, worlds.first_of(left_true ^ right_true))
    return None


def by_pair(entry):
    """The key by which papers with their pairs stand in their sequence."""
    pair, paper = entry
    return (together(pair), paper)


def doubtful(book, side, text):
    """The first two readings of a text that are not true in the same worlds, and the least such; None without them."""
    need_book(book)
    need_truth(book)
    need_side(side)
    need_text(text)
    told = worlds_told(book, side, text)
    # If any two of them part, the first reading parts from another one.
    for reading, where in told[1:]:
        first, first_where = told[0]
        if where != first_where:
            return (first, reading, all_worlds(book).first_of(where ^ first_where))
    return None


def worlds_told(book, side, text):
    """Each reading of a text with the worlds in which it is true, readings as they ascend."""
    worlds = all_worlds(book)
    return [(reading, worlds.where_true(meaning_made(book, side, reading))) for reading in readings(book, side, text)]


def sayings_of(book, side, term, count):
    """The texts of at most so many words with a reading that is true in the same worlds as the term, shortest first."""
    need_book(book)
    need_truth(book)
    need_side(side)
    need_term(book, term, "truth")
    need_count(count, 1)
    worlds = all_worlds(book)
    wanted = worlds.where_true(term)
    found = [
        reading for reading in small_readings(book, side, count)
        if worlds.where_true(meaning_made(book, side, reading)) == wanted
    ]
    return shortest_first({words_made(book, side, reading): True for reading in found})
