"""Texts led there and back, and what the other tongue cannot tell apart."""

from pairedtongues.books import need_book, need_side
from pairedtongues.bounds import MOST_TEXTS
from pairedtongues.errors import TooMany
from pairedtongues.forests import small_readings
from pairedtongues.leaders import Leader
from pairedtongues.needs import need_count, need_text, need_truth
from pairedtongues.pairs import shortest_first, texts_of
from pairedtongues.readings import need_text_on
from pairedtongues.trees import meaning_made, words_made
from pairedtongues.truths import all_worlds
from pairedtongues.uses import other_side


def back(book, side, text):
    """The texts of its own side to which those that the text is led to are led back, shortest first."""
    need_text_on(book, side, text)
    leader = Leader(book)
    return leader.texts_of_all(other_side(side), leader.texts(side, text))


def comes_alone(book, side, text):
    """Whether the text is led to some text, and nothing but the text itself is led back."""
    return back(book, side, text) == [text]


def rounds(book, side, text):
    """The texts of its own side and of the other one that can be reached from the text, each list shortest first."""
    need_text_on(book, side, text)
    leader = Leader(book)
    found = {side: {text: True}, other_side(side): {}}
    waiting = [(side, text)]
    while waiting:
        here, reached = waiting.pop()
        there = other_side(here)
        further = [target for target in leader.texts(here, reached) if target not in found[there]]
        for target in further:
            found[there][target] = True
            waiting.append((there, target))
        if len(found[here]) + len(found[there]) > MOST_TEXTS:
            raise TooMany("there are more than five hundred texts")
    return (shortest_first(found[side]), shortest_first(found[other_side(side)]))


def alike_texts(book, side, count):
    """The lists of those texts of at most so many words that are led to the same texts, all shortest first."""
    texts = texts_of(book, side, count)
    leader = Leader(book)
    fellows = {}
    # A list comes in with its first text, so that the lists stand in the order of their first texts.
    for text in texts:
        targets = tuple(leader.texts(side, text))
        if targets:
            fellows.setdefault(targets, []).append(text)
    return list(fellows.values())


def lost(book, side, count):
    """The first two texts that are led to one text, but do not say the same; None if there are none.

    Behind them stand the first text to which both are led, and the least world
    in which readings of them part.
    """
    need_book(book)
    need_truth(book)
    need_side(side)
    need_count(count, 1)
    worlds = all_worlds(book)
    told = told_by_texts(book, side, small_readings(book, side, count), worlds)
    leader = Leader(book)
    texts = shortest_first(told)
    targets = {text: {target: True for target in leader.texts(side, text)} for text in texts}
    for at, first in enumerate(texts):
        for second in texts[at + 1:]:
            apart = parting_worlds(told[first], told[second])
            shared = [target for target in targets[first] if target in targets[second]] if apart else []
            if shared:
                return (first, second, shared[0], worlds.first_of(apart))
    return None


def told_by_texts(book, side, trees, worlds):
    """For each text of these readings the worlds in which some of its readings are true, and those in which all are."""
    told = {}
    for tree in trees:
        text = words_made(book, side, tree)
        where = worlds.where_true(meaning_made(book, side, tree))
        some, every = told.get(text, (0, worlds.every))
        told[text] = (some | where, every & where)
    return told


def parting_worlds(told, other_told):
    """The worlds in which some reading of one text is true and some reading of the other one is not."""
    some, every = told
    other_some, other_every = other_told
    return (some & ~other_every) | (other_some & ~every)


def led_through(book, other, side, text):
    """The texts to which the other book leads those to which the book leads the text, shortest first."""
    need_book(book)
    need_book(other)
    need_side(side)
    need_text(text)
    return Leader(other).texts_of_all(side, Leader(book).texts(side, text))
