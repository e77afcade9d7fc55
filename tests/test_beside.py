import itertools
import random
import unittest

from pairedtongues.beside import books_apart, joined_books, needless_rules
from pairedtongues.books import is_book, turned
from pairedtongues.errors import BadBook, TooMany
from pairedtongues.learning import part_book
from pairedtongues.pairs import pairs_of
from tests.cases import (
    CATALAN, FOUR, FOUR_RIGHT, Case, alike_five_hundred, bad_books, five_hundred, plain_book, plain_rule,
)
from tests.examples import BARE, E, GREAT
from tests.naive import Naive, random_book
from tests.test_rounds import words_book

EVERY = (("every", "cat", "is", "black"), ("seni", "miro", "olu"))
SOME_ONE = (("some", "cat", "is", "black"), ("sen", "un", "mir"))
SOME_MANY = (("some", "cats", "are", "black"), ("seni", "un", "miro"))


def pair_key(pair):
    return (len(pair[0]) + len(pair[1]), pair)


def pairs_up_to(book, count):
    return {pair for sizes in itertools.product(range(1, count + 1), repeat=2) for pair in pairs_of(book, *sizes)}


def with_rules(book, rules):
    return book[:4] + (tuple(rules),)


def fine_books(first, many):
    """Small books made at random."""
    return [book for book in [random_book(seed) for seed in range(first, first + many)] if Naive(book).few(3, 60)]


class NeedlessRules(Case):
    def needless(self, book, count, expected):
        self.answers(needless_rules, [("book", book), ("count", count)], expected)

    def test_of_E(self):
        self.needless(E, 8, ())
        self.needless(E, 4, ())
        for count in (1, 2, 3):
            self.needless(E, count, tuple(range(9)))

    def test_a_rule_that_makes_what_others_make(self):
        self.needless(words_book(("a", "x"), ("a", "x"), ("b", "y")), 1, (0, 1))
        self.needless(words_book(("a", "x"), ("a", "x"), ("b", "y y")), 1, (0, 1, 2))
        self.needless(words_book(("a", "x"), ("a", "x"), ("b", "y y")), 2, (0, 1))
        book = plain_book(plain_rule("pair", "s", "t", ("a", 0), (0, "x")), plain_rule("t", "t", "", ("b",), ("y",)),
                          plain_rule("whole", "s", "", ("a", "b"), ("y", "x")), sorts="st")
        self.needless(book, 2, (0, 1, 2))
        further = with_rules(book, book[4] + (plain_rule("u", "t", "", ("c",), ("y",)),))
        self.needless(further, 2, (1, 2))
        self.needless(CATALAN, 4, (0, 1))
        self.needless(CATALAN, 1, (0, 1))

    def test_each_is_left_out_alone(self):
        # Either turn may go, but not both.
        self.needless(CATALAN, 2, (0, 1))
        self.needless(with_rules(CATALAN, CATALAN[4][1:]), 2, ())

    def test_a_book_of_one_rule(self):
        self.needless(BARE, 1, ())
        self.needless(BARE, 8, ())
        endless = plain_book(plain_rule("r", "s", "s", ("a", 0), (0, "a")))
        self.needless(endless, 8, (0,))
        self.needless(words_book(("a a", "x")), 1, (0,))
        self.needless(words_book(("a a", "x")), 2, ())

    def test_bounds(self):
        self.needless(five_hundred(False), 4, ())
        # All papers make one pair: each rule but the first one may go.
        self.needless(alike_five_hundred(False), 8, tuple(range(1, 20)))
        for book in (five_hundred(True), alike_five_hundred(True)):
            with self.assertRaises(TooMany):
                needless_rules(book, 4)
            self.needless(book, 3, tuple(range(21)))
        with self.assertRaises(TooMany):
            needless_rules(CATALAN, 8)

    def test_in_books_made_at_random(self):
        seen = {True: 0, False: 0}
        for book in fine_books(5000, 80):
            pairs = pairs_up_to(book, 3)
            numbers = range(len(book[4]))
            expected = tuple(
                left_out for left_out in numbers
                if pairs_up_to(part_book(book, tuple(number for number in numbers if number != left_out)), 3) == pairs
            )
            self.needless(book, 3, expected)
            seen[len(expected) == len(book[4])] += 1
        self.assertGreater(min(seen.values()), 5)

    def test_errors(self):
        self.refused(needless_rules, [("book", E), ("count", 2)])


class BooksApart(Case):
    def apart(self, book, other, count, expected):
        for first, second in ((book, other), (other, book)):
            self.answers(books_apart, [("book", first), ("other", second), ("count", count)], expected)

    def test_equal_books(self):
        for book in (E, BARE, GREAT, with_rules(CATALAN, CATALAN[4][:1])):
            self.apart(book, book, 8, None)

    def test_rules_in_another_sequence(self):
        self.apart(E, with_rules(E, E[4][::-1]), 8, None)
        self.apart(CATALAN, with_rules(CATALAN, CATALAN[4][1:]), 5, None)

    def test_the_first_pair_of_one_alone(self):
        self.apart(E, with_rules(E, E[4][1:]), 8, EVERY)
        self.apart(E, with_rules(E, E[4][1:]), 3, None)
        self.apart(E, with_rules(E, E[4][:1] + E[4][2:]), 8, SOME_ONE)
        self.apart(E, with_rules(E, E[4][:4] + E[4][5:]), 8, SOME_MANY)
        self.apart(words_book(("a", "x x"), ("b", "z")), words_book(("a", "x x"), ("b b", "z"), ("c", "y"), ("d", "z z")), 8, (("b",), ("z",)))
        self.apart(words_book(("a", "x x")), words_book(("b b", "x")), 8, (("a",), ("x", "x")))
        self.apart(words_book(("a", "x x")), words_book(("b b", "x"), ("c", "x")), 8, (("c",), ("x",)))
        self.apart(words_book(("a", "x x")), words_book(("b b", "x")), 1, None)
        self.apart(E, turned(E), 8, EVERY)
        self.apart(with_rules(E, E[4][1:]), turned(E), 8, SOME_ONE[::-1])

    def test_books_of_other_features_and_kinds(self):
        self.apart(E, words_book(*[tuple(" ".join(words) for words in pair) for pair in (EVERY, SOME_ONE, SOME_MANY)]), 8, None)
        self.apart(E, BARE, 8, (("a",), ("a",)))

    def test_bounds(self):
        for book in (five_hundred(False), alike_five_hundred(False)):
            self.apart(book, book, 8, None)
            self.apart(book, BARE, 8, (("a",), ("a",)))
        for book in (five_hundred(True), alike_five_hundred(True)):
            for first, second in ((book, BARE), (BARE, book), (book, book), (five_hundred(False), book)):
                with self.assertRaises(TooMany):
                    books_apart(first, second, 4)
            self.apart(book, BARE, 3, (("a",), ("a",)))
        self.apart(five_hundred(False), alike_five_hundred(False), 4, (FOUR, FOUR_RIGHT))

    def test_in_books_made_at_random(self):
        dice = random.Random(61)
        seen = {True: 0, False: 0}
        books = fine_books(5200, 60)
        for book in books:
            rules = list(book[4])
            dice.shuffle(rules)
            for other in (dice.choice(books), with_rules(book, rules[1:]), with_rules(book, rules)):
                expected = min(pairs_up_to(book, 3) ^ pairs_up_to(other, 3), key=pair_key, default=None)
                self.apart(book, other, 3, expected)
                seen[expected is None] += 1
        self.assertGreater(min(seen.values()), 10)

    def test_errors(self):
        self.refused(books_apart, [("book", E), ("other", BARE), ("count", 2)], other=(BadBook, bad_books()))


class JoinedBooks(Case):
    def joined(self, book, other, expected):
        self.answers(joined_books, [("book", book), ("other", other)], expected)
        self.assertTrue(is_book(joined_books(book, other)))

    def test_rules_of_both(self):
        first, last = with_rules(E, E[4][:5]), with_rules(E, E[4][5:])
        self.joined(first, last, E)
        self.joined(last, first, with_rules(E, E[4][5:] + E[4][:5]))
        self.joined(E, E, E)
        self.joined(BARE, BARE, BARE)

    def test_names_that_both_have(self):
        self.joined(with_rules(E, E[4][:6]), with_rules(E, E[4][3:][::-1]), with_rules(E, E[4][:6] + E[4][:5:-1]))
        # The rule of the first book stands, whatever that of the second one is.
        unlike = with_rules(E, [E[4][0][:3] + (("each", 0),) + E[4][0][4:], ("more",) + E[4][1][1:]])
        self.joined(E, unlike, with_rules(E, E[4] + (unlike[4][1],)))
        self.joined(unlike, E, with_rules(E, unlike[4] + E[4][1:]))

    def test_twenty_four_rules(self):
        def book_of(names):
            return plain_book(*[plain_rule(name, "s", "", (name,), (name,)) for name in names])

        names = [f"r{at}" for at in range(25)]
        self.joined(book_of(names[:12]), book_of(names[12:24]), book_of(names[:24]))
        self.joined(book_of(names[:24]), book_of(names[:24]), book_of(names[:24]))
        self.joined(book_of(names[:24]), book_of(names[3:20]), book_of(names[:24]))
        for first, second in ((names[:24], names[24:]), (names[:12], names[12:]), (names[:24], names[1:25]), (names[24:], names[:24])):
            with self.assertRaises(TooMany):
                joined_books(book_of(first), book_of(second))
        # That the books are unlike comes ahead of it.
        other = book_of(names[12:])
        for at, entry in ((0, (("f", ("p",)),)), (1, ("m",)), (2, other[2] + (("t", "set", (), ()),)), (3, "t")):
            unlike = other[:at] + (entry,) + other[at + 1:]
            if at == 3:
                unlike = (*other[:2], other[2] + (("t", "set", (), ()),), "t", other[4])
            with self.assertRaises(BadBook):
                joined_books(book_of(names[:12]), unlike)

    def test_unlike_books(self):
        def changed(**entries):
            names = ("features", "marks", "sorts", "start", "rules")
            return tuple(entries.get(name, entry) for name, entry in zip(names, E))

        one_rule = (("w", ("clause", (), ()), (), ("w",), ("w",), ("is", ("no", ("none",)), ("none",)), ("is", ("no", ("none",)), ("none",))),)
        others = [
            changed(features=(("number", ("many", "one")),)), changed(features=E[0] + (("case", ("nom",)),)),
            changed(features=(("number", ("one", "many", "two")),)), changed(marks=("cat", "black")), changed(marks=("black",), rules=one_rule),
            changed(sorts=E[2][::-1]), changed(sorts=E[2] + (("more", "set", (), ()),)), changed(start="noun"), changed(start="phrase"),
            changed(sorts=E[2][:1], rules=one_rule), BARE, turned(E),
        ]
        for other in others:
            self.assertTrue(is_book(other))
            for first, second in ((E, other), (other, E)):
                with self.assertRaises(BadBook):
                    joined_books(first, second)
        self.joined(E, changed(rules=one_rule), with_rules(E, E[4] + one_rule))

    def test_errors(self):
        self.refused(joined_books, [("book", E), ("other", E)], other=(BadBook, bad_books()))


if __name__ == "__main__":
    unittest.main()
