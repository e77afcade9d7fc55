"""The main property: what the modules tell of one book agrees."""

import itertools
import unittest

from pairedtongues.books import turned, words_of
from pairedtongues.errors import TooMany
from pairedtongues.leading import count_led_papers, led, turned_papers, why_not, written
from pairedtongues.learning import fewest_rules, fits, part_book, rules_of
from pairedtongues.meanings import book_keeps, meaning, rule_keeps
from pairedtongues.nearby import nearest, nearest_pair, pair_fillings
from pairedtongues.pairs import (
    is_pair, made_by, no_pair_holds, no_pair_paper, paper_holds, papers, pairs_of, side_reading, texts_of,
)
from pairedtongues.readings import no_reading_holds, no_reading_paper, reading_holds, readings
from pairedtongues.rounds import back
from pairedtongues.rows import read_book, write_book
from pairedtongues.worlds import parts_apart
from tests.examples import E, LEANING_TEXT
from tests.naive import SIDES, Naive
from tests.said import telling_book

OTHER = {"left": "right", "right": "left"}


def some_books():
    """E, the leaning book, and small books made at random."""
    found = [E, read_book(LEANING_TEXT)]
    return found + [book for book in [telling_book(seed) for seed in range(6000, 6040)] if Naive(book).few(3, 40)]


def texts_around(book, side):
    """Texts with a reading, and others of the same words."""
    words = words_of(book, side)[:4]
    return texts_of(book, side, 4)[:12] + [text for size in (1, 2) for text in itertools.product(words, repeat=size)]


class Led(unittest.TestCase):
    def test_by_reading_choosing_forms_and_writing(self):
        seen = 0
        for book in some_books():
            for side in SIDES:
                for text in texts_around(book, side):
                    found = [tree for reading in readings(book, side, text) for tree in turned_papers(book, side, reading)]
                    written_out = sorted({written(book, OTHER[side], tree) for tree in found}, key=lambda words: (len(words), words))
                    self.assertEqual(led(book, side, text), written_out)
                    self.assertEqual(count_led_papers(book, side, text), len(found))
                    self.assertEqual(why_not(book, side, text) is None, written_out != [])
                    self.assertEqual(text in back(book, side, text), written_out != [])
                    for other in written_out:
                        self.assertIn(text, led(book, OTHER[side], other))
                    seen += len(written_out)
        self.assertGreater(seen, 200)

    def test_to_exactly_those_with_which_it_is_a_pair(self):
        for book in some_books():
            others = texts_of(book, "right", 3)
            for text in texts_of(book, "left", 3):
                found = [other for other in led(book, "left", text) if len(other) <= 3]
                self.assertEqual([other for other in others if is_pair(book, text, other)], found)
                self.assertEqual([other for other in others if is_pair(turned(book), other, text)], found)


class Shown(unittest.TestCase):
    def test_a_paper_or_a_list_of_blocks(self):
        seen = {True: 0, False: 0}
        for book in some_books():
            for left, right in itertools.product(texts_around(book, "left")[:10], texts_around(book, "right")[:10]):
                blocks = no_pair_paper(book, left, right)
                found = papers(book, left, right)
                self.assertEqual(blocks is None, found != [])
                if blocks is not None:
                    self.assertIs(no_pair_holds(book, left, right, blocks), True)
                for tree in found:
                    self.assertIs(paper_holds(book, left, right, tree), True)
                    self.assertEqual(made_by(book, tree), (left, right))
                    for side, text in zip(SIDES, (left, right)):
                        self.assertIs(reading_holds(book, side, text, side_reading(book, side, tree)), True)
                    self.assertIs(fits(book, rules_of(book, tree), ((left, right),)), True)
                seen[found != []] += 1
        self.assertGreater(min(seen.values()), 100)

    def test_a_reading_or_a_table(self):
        for book in some_books():
            for side in SIDES:
                for text in texts_around(book, side):
                    table = no_reading_paper(book, side, text)
                    self.assertEqual(table is None, readings(book, side, text) != [])
                    self.assertEqual(nearest(book, side, text) == (0, text), table is None)
                    if table is not None:
                        self.assertIs(no_reading_holds(book, side, text, table), True)


class Kept(unittest.TestCase):
    def test_if_every_rule_keeps_meaning_every_pair_does(self):
        seen = 0
        for seed in range(6100, 6400):
            book = telling_book(seed)
            keeping = tuple(number for number in range(len(book[4])) if keeps(book, number))
            if not keeping or not Naive(book).few(4, 60):
                continue
            part = part_book(book, keeping)
            self.assertIsNone(book_keeps(part, 4))
            for sizes in itertools.product((1, 2, 3), repeat=2):
                for left, right in pairs_of(part, *sizes):
                    for tree in papers(part, left, right):
                        terms = [meaning(part, side, side_reading(part, side, tree)) for side in SIDES]
                        self.assertIsNone(parts_apart(part, *terms))
                        seen += terms[0] != terms[1]
        self.assertGreater(seen, 5)


def keeps(book, number):
    try:
        return rule_keeps(book, number)
    except TooMany:
        return False


class Beside(unittest.TestCase):
    def test_pairs_by_other_ways(self):
        for book in some_books():
            pairs = [pair for sizes in itertools.product((1, 2, 3), repeat=2) for pair in pairs_of(book, *sizes)]
            for left, right in pairs:
                self.assertEqual(nearest_pair(book, left, right, 3), (0, left, right))
                self.assertIn((left, right), pair_fillings(book, left, (None,) * len(right)))
                self.assertIs(fits(book, fewest_rules(book, ((left, right),)), ((left, right),)), True)
            for count, other in itertools.product((1, 2, 3), repeat=2):
                self.assertEqual(pair_fillings(book, (None,) * count, (None,) * other), pairs_of(book, count, other))

    def test_books_written_and_read(self):
        for book in some_books():
            self.assertEqual(read_book(write_book(book)), book)
            self.assertEqual(turned(turned(book)), book)


if __name__ == "__main__":
    unittest.main()
