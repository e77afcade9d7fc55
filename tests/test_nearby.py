import functools
import itertools
import random
import unittest

from pairedtongues.books import words_of
from pairedtongues.errors import BadText, TooMany
from pairedtongues.nearby import count_fillings, fillings, nearest, nearest_pair, pair_fillings, sure_words
from pairedtongues.pairs import count_papers, pairs_of, papers, texts_of
from pairedtongues.readings import count_readings
from tests.cases import (
    CATALAN, FOUR, FOUR_RIGHT, Case, alike_five_hundred, bad_texts, five_hundred, plain_book, plain_rule,
)
from tests.examples import BARE, E, Nasty
from tests.naive import SIDES, random_book
from tests.test_rounds import words_book

EVERY = ("every", "cat", "is", "black")
EVERY_RIGHT = ("seni", "miro", "olu")
SOME_ONE, SOME_MANY = ("some", "cat", "is", "black"), ("some", "cats", "are", "black")

# No text at all: the one rule needs itself.
ENDLESS = plain_book(plain_rule("r", "s", "s", ("a", 0), (0, "a")))


def text(words):
    return tuple(words.split())


def gapped(words):
    """The gapped text with a gap for each dot."""
    return tuple(None if word == "." else word for word in words.split())


@functools.cache
def plain_distance(one, other):
    if not one or not other:
        return len(one) + len(other)
    steps = [plain_distance(one[1:], other) + 1, plain_distance(one, other[1:]) + 1, plain_distance(one[1:], other[1:]) + (one[0] != other[0])]
    return min(steps)


def some_texts(dice, words, many):
    """Texts of these words and some further ones, made at random."""
    return [tuple(dice.choice(words + ["zz"]) for _ in range(dice.randint(1, 8))) for _ in range(many)]


def pairs_up_to(book, count):
    return [pair for sizes in itertools.product(range(1, count + 1), repeat=2) for pair in pairs_of(book, *sizes)]


def pair_key(pair):
    return (len(pair[0]) + len(pair[1]), pair)


class Nearest(Case):
    def near(self, book, side, given, expected):
        self.answers(nearest, [("book", book), ("side", side), ("text", given)], expected)

    def test_the_example(self):
        self.near(E, "left", ("all", "cats", "are", "black"), (1, SOME_MANY))

    def test_texts_with_a_reading(self):
        for side, rows in (("left", [EVERY, SOME_ONE, SOME_MANY]), ("right", [EVERY_RIGHT, ("sen", "un", "mir")])):
            for given in rows:
                self.near(E, side, given, (0, given))
        self.near(CATALAN, "left", ("a",) * 8, (0, ("a",) * 8))
        self.near(BARE, "left", ("a",), (0, ("a",)))

    def test_words_put_in_left_out_and_exchanged(self):
        book = words_book(("b c d e", "x"))
        for given, number in [("b c d e", 0), ("c d e", 1), ("b c e", 1), ("b c d", 1), ("a b c d e", 1), ("b c a d e", 1), ("b c d e e", 1),
                              ("a c d e", 1), ("b a d e", 1), ("b c d a", 1), ("e", 3), ("a", 4), ("b", 3), ("e d c b", 4), ("c d e b", 2),
                              ("a a b c d e", 2), ("a b c d e a", 2), ("b a c a d a e a", 4), ("a b c d e", 1), ("c b d e", 2), ("d e a a a", 5)]:
            self.near(book, "left", text(given), (number, text("b c d e")))
        self.near(book, "right", text("a a a x a a"), (5, ("x",)))
        self.near(book, "right", text("x x x x x x x x"), (7, ("x",)))

    def test_shortest_of_the_nearest_then_as_tuples_compare(self):
        book = words_book(("a b c", "x"), ("a b", "x"), ("a d", "x"), ("d d d", "x"), ("a a b b", "x"))
        self.near(book, "left", text("a c"), (1, text("a b")))
        self.near(book, "left", text("a b b"), (1, text("a b")))
        self.near(book, "left", text("b c"), (1, text("a b c")))
        self.near(book, "left", text("d"), (1, text("a d")))
        self.near(book, "left", text("d d"), (1, text("a d")))
        self.near(book, "left", text("zz"), (2, text("a b")))
        self.near(book, "left", text("a a b"), (1, text("a b")))
        self.near(book, "left", text("a a b c"), (1, text("a b c")))
        self.near(book, "left", text("zz zz zz"), (3, text("a b")))

    def test_no_text_has_a_reading(self):
        for side in SIDES:
            self.near(ENDLESS, side, ("a",), None)
        # All texts of the left have nine words or more.
        nine = plain_book(plain_rule("top", "s", "tt", ("a", "a", "a", 0, 1), (0, 1)), plain_rule("t", "t", "", ("b", "b", "b"), ("c",)), sorts="st")
        self.near(nine, "left", ("a",) * 8, None)
        self.near(nine, "right", ("a",) * 8, (8, ("c", "c")))

    def test_texts_of_nine_words_are_none(self):
        book = plain_book(plain_rule("top", "s", "s", (0, "a", "b"), (0,) + ("c",)), plain_rule("one", "s", "", ("a", "b"), ("c",)))
        self.near(book, "left", text("a b a b a b a"), (1, text("a b a b a b")))
        self.near(book, "left", text("b a b a b a b a"), (2, text("a b a b a b")))
        self.near(book, "left", text("a b a b a b a b"), (0, text("a b a b a b a b")))

    def test_forms_that_must_agree(self):
        self.near(E, "left", text("every cats are black"), (1, SOME_MANY))
        self.near(E, "left", text("some cats is black"), (1, SOME_ONE))
        self.near(E, "left", text("cats"), (3, SOME_MANY))
        self.near(E, "left", text("is"), (3, EVERY))
        self.near(E, "right", text("un"), (2, text("sen un mir")))
        self.near(E, "right", text("olu"), (2, EVERY_RIGHT))
        self.near(E, "right", text("zz"), (3, text("sen un mir")))

    def test_holes_in_another_sequence(self):
        book = plain_book(plain_rule("top", "s", "tu", (0, "a", 1), (1, 0)), plain_rule("t", "t", "", ("b", "b"), ("c", "d")),
                          plain_rule("u", "u", "", ("e",), ("f", "g", "h")), sorts="stu")
        self.near(book, "right", text("g h c d"), (1, text("f g h c d")))
        self.near(book, "right", text("c d f g h"), (4, text("f g h c d")))
        self.near(book, "left", text("b b e"), (1, text("b b a e")))

    def test_far_beyond_five_hundred_readings(self):
        self.near(CATALAN, "left", text("a b a b a b a"), (3, ("a",) * 4))
        self.near(five_hundred(True), "right", ("z0", "x0", "w3", "zz"), (1, ("z0", "x0", "w3", "y0")))
        wide = plain_book(*[plain_rule(f"r{at}", "s", "ss", (0, 1), (1, 0)) for at in range(20)],
                          *[plain_rule(word, "s", "", (word,), (word,)) for word in "abcd"])
        self.near(wide, "left", text("a b e a b e d d"), (2, text("a b a b d d")))
        self.near(wide, "left", text("e e e e e e e e"), (8, text("a")))

    def test_in_books_made_at_random(self):
        dice = random.Random(41)
        seen = {}
        for seed in range(3000, 3080):
            book = random_book(seed, 3)
            for side in SIDES:
                try:
                    found = texts_of(book, side, 8)
                except TooMany:
                    continue
                for given in some_texts(dice, words_of(book, side), 6):
                    told = [(plain_distance(given, other), len(other), other) for other in found]
                    expected = (min(told)[0], min(told)[2]) if told else None
                    self.near(book, side, given, expected)
                    number = expected[0] if expected else None
                    seen[number] = seen.get(number, 0) + 1
        self.assertGreater(min(seen.get(number, 0) for number in (None, 0, 1, 2, 3)), 3)

    def test_errors(self):
        self.refused(nearest, [("book", E), ("side", "left"), ("text", EVERY)])


class NearestPair(Case):
    def near(self, book, left, right, count, expected):
        self.answers(nearest_pair, [("book", book), ("left", left), ("right", right), ("count", count)], expected)

    def test_of_E(self):
        self.near(E, EVERY, EVERY_RIGHT, 4, (0, EVERY, EVERY_RIGHT))
        self.near(E, EVERY, EVERY_RIGHT, 8, (0, EVERY, EVERY_RIGHT))
        self.near(E, SOME_ONE, ("seni", "un", "miro"), 8, (2, SOME_ONE, ("sen", "un", "mir")))
        self.near(E, ("all", "cats", "are", "black"), ("sen", "un", "mir"), 8, (3, SOME_ONE, ("sen", "un", "mir")))
        self.near(E, EVERY, EVERY_RIGHT, 3, None)
        self.near(E, EVERY_RIGHT, EVERY, 8, (8, EVERY, EVERY_RIGHT))

    def test_the_first_of_the_nearest(self):
        book = words_book(("a a", "x x"), ("b", "x x x"), ("a", "y y y"), ("b b", "x x"), ("c c c c", "z"))
        self.near(book, ("q",), ("q",), 8, (4, ("a",), ("y", "y", "y")))
        self.near(book, ("a", "b"), ("x", "x"), 8, (1, ("a", "a"), ("x", "x")))
        self.near(book, ("a", "b"), ("x", "x"), 2, (1, ("a", "a"), ("x", "x")))
        self.near(book, ("b",), ("x", "x"), 8, (1, ("b",), ("x", "x", "x")))
        self.near(book, ("b",), ("x", "x"), 2, (1, ("b", "b"), ("x", "x")))
        self.near(book, ("b",), ("x", "x"), 1, None)
        self.near(book, ("c", "c", "c", "c"), ("z",), 3, (6, ("a", "a"), ("x", "x")))
        self.near(book, ("c", "c", "c", "c"), ("z",), 4, (0, ("c", "c", "c", "c"), ("z",)))

    def test_the_number_of_words_of_both_together(self):
        # Both lie two steps from (q) and (q, q).
        self.near(words_book(("b", "q"), ("a", "q")), ("q",), ("q", "q"), 8, (2, ("a",), ("q",)))
        self.near(words_book(("a q", "q q q"), ("b", "q")), ("q",), ("q", "q"), 8, (2, ("b",), ("q",)))
        self.near(words_book(("a a", "x"), ("b", "x x")), ("zz",) * 3, ("zz",) * 3, 8, (6, ("a", "a"), ("x",)))
        self.near(words_book(("c c", "x"), ("b", "x x")), ("zz",) * 3, ("zz",) * 3, 8, (6, ("b",), ("x", "x")))

    def test_none(self):
        self.near(ENDLESS, ("a",), ("a",), 8, None)
        self.near(BARE, ("b",) * 8, ("a", "a"), 1, (9, ("a",), ("a",)))

    def test_five_hundred_papers(self):
        given = ("z3", "x4", "w2", "zz")
        self.near(five_hundred(False), FOUR, given, 4, (1, FOUR, ("z3", "x4", "w2", "y0")))
        self.near(alike_five_hundred(False), FOUR, given, 8, (4, FOUR, FOUR_RIGHT))
        for book in (five_hundred(True), alike_five_hundred(True), CATALAN):
            with self.assertRaises(TooMany):
                nearest_pair(book, FOUR, FOUR, 8)
        self.near(five_hundred(True), FOUR, FOUR, 3, None)

    def test_in_books_made_at_random(self):
        dice = random.Random(42)
        seen = {}
        for seed in range(3100, 3160):
            book = random_book(seed, 3)
            for count in (2, 4):
                try:
                    pairs = pairs_up_to(book, count)
                except TooMany:
                    continue
                if sum(count_papers(book, *pair) for pair in pairs) > 500:
                    continue
                rows = [some_texts(dice, words_of(book, side), 4) for side in SIDES]
                for left, right in zip(*rows):
                    told = [(plain_distance(left, pair[0]) + plain_distance(right, pair[1]), pair_key(pair)) for pair in pairs]
                    expected = (min(told)[0], *min(told)[1][1]) if told else None
                    self.near(book, left, right, count, expected)
                    seen[expected is None] = seen.get(expected is None, 0) + 1
        self.assertGreater(min(seen.values()), 10)

    def test_errors(self):
        self.refused(nearest_pair, [("book", E), ("left", EVERY), ("right", EVERY_RIGHT), ("count", 2)])


def fits(given, words):
    return len(given) == len(words) and all(gap is None or gap == word for gap, word in zip(given, words))


def bad_gapped():
    """No gapped texts."""
    return [(), ("cat",) * 9, (None,) * 9, [None], ["cat"], "cat", None, 0, True, ("Cat",), ("cat", ""), ("cat", 0), ("cat", False),
            (("cat",),), ((None,),), ([None],), b"cat", ("cat", b"cat"), Nasty(), (Nasty(),), (None, Nasty()), {}, {None: None}]


class Fillings(Case):
    def fills(self, book, side, given, expected):
        self.answers(fillings, [("book", book), ("side", side), ("gapped", given)], expected)

    def test_of_E(self):
        self.fills(E, "left", gapped(". . . ."), [EVERY, SOME_ONE, SOME_MANY])
        self.fills(E, "left", gapped(". cat . ."), [EVERY, SOME_ONE])
        self.fills(E, "left", gapped("some . . black"), [SOME_ONE, SOME_MANY])
        self.fills(E, "left", gapped(". . are ."), [SOME_MANY])
        self.fills(E, "left", gapped("every . are ."), [])
        self.fills(E, "right", gapped(". un ."), [("sen", "un", "mir"), ("seni", "un", "miro")])
        self.fills(E, "right", gapped(". . olu"), [EVERY_RIGHT])

    def test_without_gaps_and_of_gaps_alone(self):
        self.fills(E, "left", EVERY, [EVERY])
        self.fills(E, "left", EVERY_RIGHT, [])
        for size in range(1, 9):
            self.fills(E, "left", (None,) * size, [EVERY, SOME_ONE, SOME_MANY] if size == 4 else [])
            self.fills(words_book(("a", "x"), ("b", "x")), "left", (None,) * size, [("a",), ("b",)] if size == 1 else [])
        self.fills(BARE, "left", (None,), [("a",)])

    def test_words_that_are_not_in_the_book(self):
        self.fills(E, "left", gapped("zz . . ."), [])
        self.fills(E, "left", gapped(". . . zz"), [])

    def test_gaps_at_either_end(self):
        self.fills(E, "left", (None,) + EVERY[1:], [EVERY, SOME_ONE])
        self.fills(E, "left", EVERY[:3] + (None,), [EVERY])

    def test_bounds(self):
        book = five_hundred(False)
        self.fills(book, "left", (None,) * 4, [FOUR])
        self.fills(book, "left", FOUR, [FOUR])
        self.fills(book, "right", (None,) * 4, texts_of(book, "right", 4))
        self.fills(book, "right", ("z3", None, "w1", None), [("z3", f"x{x}", "w1", f"y{y}") for x in range(5) for y in range(5)])
        for side, given in (("left", (None,) * 4), ("left", FOUR), ("right", (None,) * 4)):
            with self.assertRaises(TooMany):
                fillings(five_hundred(True), side, given)
        self.fills(five_hundred(True), "right", gapped("w9 . . ."), [("w9", "x9", "y9", "z9")])
        with self.assertRaises(TooMany):
            fillings(CATALAN, "left", gapped(". . . . . . . ."))
        self.fills(CATALAN, "left", gapped(". . . . . . . b"), [])

    def test_in_books_made_at_random(self):
        dice = random.Random(43)
        seen = 0
        for seed in range(3200, 3240):
            book = random_book(seed, 3)
            for side in SIDES:
                try:
                    found = texts_of(book, side, 5)
                except TooMany:
                    continue
                for given in gaps_of(dice, found, 8):
                    expected = sorted(other for other in found if fits(given, other))
                    self.fills(book, side, given, expected)
                    seen += len(expected) > 1
        self.assertGreater(seen, 30)

    def test_errors(self):
        self.refused(fillings, [("book", E), ("side", "left"), ("gapped", EVERY)], gapped=(BadText, bad_gapped()))
        # All that is no text is no gapped text either, but for what has a None.
        for given in bad_texts():
            if not (isinstance(given, tuple) and None in [entry for entry in given if entry is None]):
                with self.assertRaises(BadText):
                    fillings(E, "left", given)


def gaps_of(dice, found, many):
    """Some of the texts with gaps."""
    return [tuple(None if dice.random() < 0.6 else word for word in dice.choice(found)) for _ in range(many if found else 0)]


class PairFillings(Case):
    def fills(self, book, left, right, expected, sure=None, papers_of=None):
        arguments = [("book", book), ("left", left), ("right", right)]
        self.answers(pair_fillings, arguments, expected)
        if sure is None and expected:
            sure = tuple(one_word([pair[at] for pair in expected]) for at in (0, 1))
        self.answers(sure_words, arguments, sure)
        number = sum(count_papers(book, *pair) for pair in expected) if papers_of is None else papers_of
        self.answers(count_fillings, arguments, number)

    def test_the_example(self):
        self.fills(E, gapped("every . is ."), gapped("seni . ."), [(EVERY, EVERY_RIGHT)], (EVERY, EVERY_RIGHT), 1)

    def test_of_E(self):
        three = [(EVERY, EVERY_RIGHT), (SOME_ONE, ("sen", "un", "mir")), (SOME_MANY, ("seni", "un", "miro"))]
        four = [three[0], three[1], (SOME_ONE, ("seni", "un", "miro")), three[2]]
        found = [pair for pair in four if papers(E, *pair)]
        self.fills(E, gapped(". . . ."), gapped(". . ."), found, (gapped(". . . black"), gapped(". . .")))
        self.fills(E, gapped("some . . ."), gapped(". . ."), found[1:], (gapped("some . . black"), gapped(". un .")))
        self.fills(E, gapped(". . . ."), gapped(". . miro"), [three[2]], three[2])
        self.fills(E, gapped("every . . ."), gapped(". un ."), [], None, 0)
        self.fills(E, gapped(". . ."), gapped(". . ."), [], None, 0)

    def test_without_gaps_and_of_gaps_alone(self):
        self.fills(E, EVERY, EVERY_RIGHT, [(EVERY, EVERY_RIGHT)], (EVERY, EVERY_RIGHT), 1)
        self.fills(E, EVERY, ("sen", "un", "mir"), [], None, 0)
        self.fills(E, EVERY, (None,) * 3, [(EVERY, EVERY_RIGHT)], (EVERY, EVERY_RIGHT), 1)
        self.fills(E, (None,) * 4, EVERY_RIGHT, [(EVERY, EVERY_RIGHT)], (EVERY, EVERY_RIGHT), 1)
        book = words_book(("a b", "x y"), ("a c", "x z"), ("d", "x"))
        self.fills(book, (None, None), (None, None), [(("a", "b"), ("x", "y")), (("a", "c"), ("x", "z"))], (("a", None), ("x", None)), 2)
        self.fills(book, (None, "c"), (None, None), [(("a", "c"), ("x", "z"))], (("a", "c"), ("x", "z")), 1)
        self.fills(book, (None, None), ("x", None), [(("a", "b"), ("x", "y")), (("a", "c"), ("x", "z"))], (("a", None), ("x", None)), 2)
        self.fills(book, (None,), (None,), [(("d",), ("x",))], (("d",), ("x",)), 1)
        self.fills(book, (None,) * 8, (None,) * 8, [], None, 0)

    def test_words_that_are_not_in_the_book(self):
        self.fills(E, gapped("zz . . ."), gapped(". . ."), [], None, 0)
        self.fills(E, gapped(". . . ."), gapped(". . zz"), [], None, 0)

    def test_one_pair_of_many_papers(self):
        self.fills(alike_five_hundred(False), FOUR, (None,) * 4, [(FOUR, FOUR_RIGHT)], (FOUR, FOUR_RIGHT), 500)

    def test_five_hundred_and_one_papers(self):
        book = five_hundred(False)
        found = pair_fillings(book, (None,) * 4, (None,) * 4)
        self.assertEqual(found, [(FOUR, right) for right in texts_of(book, "right", 4)])
        self.fills(book, (None,) * 4, (None,) * 4, found, (FOUR, (None,) * 4), 500)
        self.fills(book, ("a", None, "a", None), (None, "x1", None, None), [pair for pair in found if pair[1][1] == "x1"],
                   (FOUR, (None, "x1", None, None)), 100)
        for book in (five_hundred(True), alike_five_hundred(True)):
            for left, right in (((None,) * 4, (None,) * 4), (FOUR, (None,) * 4)):
                for function in (pair_fillings, sure_words):
                    with self.assertRaises(TooMany):
                        function(book, left, right)
                self.assertEqual(count_fillings(book, left, right), 501)
        self.fills(five_hundred(True), FOUR, gapped("w9 . . ."), [(FOUR, ("w9", "x9", "y9", "z9"))], (FOUR, ("w9", "x9", "y9", "z9")), 1)

    def test_far_beyond(self):
        self.answers(count_fillings, [("book", CATALAN), ("left", (None,) * 8), ("right", (None,) * 8)], 54912)
        self.answers(count_fillings, [("book", CATALAN), ("left", (None,) * 8), ("right", (None,) * 7)], 0)
        wide = plain_book(*[plain_rule(f"r{at}", "s", "ss", (0, 1), (1, 0)) for at in range(20)],
                          *[plain_rule(word, "s", "", (word,), ("x",)) for word in "abcd"])
        self.answers(count_fillings, [("book", wide), ("left", (None,) * 8), ("right", ("x",) + (None,) * 7)], 4 ** 8 * 20 ** 7 * 429)
        self.assertEqual(count_readings(wide, "left", ("a",) * 8), 20 ** 7 * 429)

    def test_in_books_made_at_random(self):
        dice = random.Random(44)
        seen = {}
        for seed in range(3300, 3360):
            book = random_book(seed, 3)
            try:
                pairs = pairs_up_to(book, 4)
            except TooMany:
                continue
            for _ in range(8 if pairs else 0):
                left, right = [gaps_of(dice, [words], 1)[0] for words in dice.choice(pairs)]
                expected = sorted(pair for pair in pairs if fits(left, pair[0]) and fits(right, pair[1]))
                self.fills(book, left, right, expected)
                seen[min(len(expected), 3)] = seen.get(min(len(expected), 3), 0) + 1
        self.assertGreater(min(seen.get(number, 0) for number in (1, 2, 3)), 10)

    def test_errors(self):
        arguments = [("book", E), ("left", gapped("every . . .")), ("right", (None,) * 3)]
        for function in (pair_fillings, sure_words, count_fillings):
            self.refused(function, arguments, left=(BadText, bad_gapped()), right=(BadText, bad_gapped()))


def one_word(rows):
    """At each place the one word of all the texts, None where they have several."""
    return tuple(row[0] if len(set(row)) == 1 else None for row in zip(*rows))


if __name__ == "__main__":
    unittest.main()
