import itertools
import unittest

from pairedtongues.books import words_of
from pairedtongues.readings import first_wrong, goes_on
from tests.cases import CATALAN, Case, plain_book, plain_rule
from tests.examples import BARE, E
from tests.naive import SIDES, Naive, random_book


def ending(words):
    """A book whose texts are two words and so many more, six or more of them."""
    return plain_book(
        plain_rule("top", "s", "t", ("a", "a", 0), (0, "a")),
        plain_rule("end", "t", "u", ("b", "c", "d", "e", "f", 0), (0, "z")),
        plain_rule("last", "u", "", ("g",) * (words - 5), ("z",)),
        sorts="stu",
    )


class GoesOn(Case):
    def goes(self, book, side, text, expected):
        self.answers(goes_on, [("book", book), ("side", side), ("text", text)], expected)

    def test_of_E(self):
        for text in [("every",), ("every", "cat"), ("every", "cat", "is"), ("every", "cat", "is", "black"), ("some", "cats"),
                     ("some", "cats", "are"), ("some", "cat", "is", "black")]:
            self.goes(E, "left", text, True)
        for text in [("every", "cats"), ("cat",), ("zz",), ("every", "cat", "are"), ("some", "cats", "is"), ("every", "zz"),
                     ("every", "cat", "is", "black", "black"), ("is",), ("every", "every"), ("every", "cats", "is", "black")]:
            self.goes(E, "left", text, False)
        for text in [("sen",), ("seni",), ("seni", "un"), ("seni", "miro"), ("seni", "miro", "olu"), ("sen", "un", "mir")]:
            self.goes(E, "right", text, True)
        for text in [("olu",), ("sen", "miro"), ("sen", "un", "miro"), ("every",), ("seni", "mir")]:
            self.goes(E, "right", text, False)

    def test_a_text_that_is_one(self):
        self.goes(BARE, "left", ("a",), True)
        self.goes(BARE, "left", ("a", "a"), False)
        self.goes(CATALAN, "left", ("a",) * 8, True)
        self.goes(CATALAN, "left", ("a",) * 7 + ("b",), False)

    def test_up_to_eight_words(self):
        book = ending(6)
        whole = ("a", "a", "b", "c", "d", "e", "f", "g")
        for size in range(1, 9):
            self.goes(book, "left", whole[:size], True)
        for size in range(1, 8):
            self.goes(book, "left", whole[:size] + ("a",) if size > 1 else ("b",), False)

    def test_only_beyond_eight_words(self):
        for words in (7, 8, 9, 10):
            book = ending(words)
            for size in (1, 2, 3, 7):
                self.goes(book, "left", ("a", "a", "b", "c", "d", "e", "f")[:size], False)
            self.goes(book, "right", ("z",), True)

    def test_one_ends_in_time_and_one_does_not(self):
        rules = [
            plain_rule("short", "s", "", ("a", "b"), ("z",)), plain_rule("long", "s", "t", ("a", "c", 0), ("z", 0)),
            plain_rule("tail", "t", "", ("d",) * 6, ("z",)), plain_rule("other", "t", "t", ("e", 0), (0, "z")),
        ]
        book = plain_book(*rules, sorts="st")
        self.goes(book, "left", ("a",), True)
        self.goes(book, "left", ("a", "c", "d"), True)
        self.goes(book, "left", ("a", "c", "e"), False)
        self.assertEqual(first_wrong(book, "left", ("a", "c", "e", "d")), 2)

    def test_errors(self):
        self.refused(goes_on, [("book", E), ("side", "left"), ("text", ("every",))])


class FirstWrong(Case):
    def wrong(self, book, side, text, expected):
        self.answers(first_wrong, [("book", book), ("side", side), ("text", text)], expected)

    def test_the_examples(self):
        self.wrong(E, "left", ("every", "cats", "is", "black"), 1)
        self.wrong(E, "left", ("some", "cats", "are"), 3)

    def test_of_E(self):
        self.wrong(E, "left", ("every", "cat", "is", "black"), None)
        self.wrong(E, "left", ("cat",), 0)
        self.wrong(E, "left", ("zz", "cat", "is", "black"), 0)
        self.wrong(E, "left", ("some", "cats", "is", "black"), 2)
        self.wrong(E, "left", ("every", "cat", "is", "cat"), 3)
        self.wrong(E, "left", ("every", "cat", "is", "black", "cat"), 4)
        self.wrong(E, "left", ("every",), 1)
        self.wrong(E, "right", ("seni", "miro"), 2)
        self.wrong(E, "right", ("sen", "un", "miro"), 2)

    def test_beyond_eight_words(self):
        self.wrong(ending(7), "left", ("a", "a"), 0)
        self.wrong(ending(6), "left", ("a", "a"), 2)
        self.wrong(ending(6), "left", ("a", "a", "b", "c", "d", "e", "f", "f"), 7)
        self.wrong(CATALAN, "left", ("a",) * 7 + ("b",), 7)
        self.wrong(CATALAN, "left", ("a",) * 8, None)

    def test_in_books_made_at_random(self):
        seen = {}
        for seed in range(500, 600):
            book = random_book(seed)
            naive = Naive(book)
            # The plain way to all texts of eight words is only open where there are few of them.
            if not naive.few(8, 200):
                continue
            for side in SIDES:
                texts = {text for size in range(1, 9) for text in naive.texts(side, size)}
                for text in itertools.product(words_of(book, side)[:2] + ["zz"], repeat=3):
                    begun = [any(whole[:k] == text[:k] for whole in texts) for k in (1, 2, 3)]
                    self.assertIs(goes_on(book, side, text), begun[2])
                    expected = None if text in texts else (begun + [False]).index(False)
                    self.assertEqual(first_wrong(book, side, text), expected)
                    seen[expected] = seen.get(expected, 0) + 1
        self.assertGreater(min(seen.get(place, 0) for place in (None, 0, 1, 2, 3)), 10)

    def test_errors(self):
        self.refused(first_wrong, [("book", E), ("side", "left"), ("text", ("every",))])


if __name__ == "__main__":
    unittest.main()
