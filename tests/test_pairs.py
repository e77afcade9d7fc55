import itertools
import unittest

from pairedtongues.books import turned, words_of
from pairedtongues.errors import BadCount, BadPaper, TooMany
from pairedtongues.pairs import count_papers, is_pair, made_by, paper_holds, papers, pairs_of, side_reading, texts_of
from pairedtongues.readings import reading_holds, readings
from tests.cases import (
    CATALAN, FOUR, FOUR_RIGHT, Case, alike_five_hundred, bad_counts, five_hundred, plain_book, plain_rule, shared_tower, spoilt,
)
from tests.examples import BARE, E, strange_things
from tests.naive import SIDES, Naive, random_book, side_tree

LEFT = ("every", "cat", "is", "black")
RIGHT = ("seni", "miro", "olu")
PAPER = (7, ("many",), ((0, (), ((3, (), ()),)), (6, (), ())))
SOME = ("some", "cats", "are", "black")
SOME_RIGHT = ("seni", "un", "miro")
SOME_PAPER = (8, ("many",), ((1, ("many",), ((4, (), ()),)), (6, (), ())))

# On the right there are three words more with each rule, on the left one.
LONG = plain_book(
    plain_rule("top", "s", "s", ("a", 0), (0, "b", "b", "b")), plain_rule("two", "s", "", ("a", "a"), ("b", "b")),
    plain_rule("six", "s", "", ("a",) * 6, ("b",)),
)


def chain(many, last):
    """A paper of the book LONG with so many first rules."""
    tree = (last, (), ())
    for _ in range(many):
        tree = (0, (), (tree,))
    return tree


# The variables: A on the left alone, B on the right alone, C on both sides,
# D nowhere but in the holes. What agrees on each side need not agree on both.
VARIED = (
    (("f", ("p", "q")), ("g", ("m", "n", "o"))), (),
    (("s", "set", ("f", "g"), ("g", "g")), ("t", "set", ("f",), ("g",)), ("u", "set", (), ())), "s",
    (
        ("top", ("s", ("A", "C"), ("B", "C")), (("t", ("A",), ("C",)), ("t", ("q",), ("B",))), (0, 1), (1, "y", 0), ("none",), ("none",)),
        ("one", ("t", ("p",), ("m",)), (), ("a",), ("x",), ("none",), ("none",)),
        ("two", ("t", ("A",), ("B",)), (), ("b",), ("x",), ("none",), ("none",)),
        ("deep", ("t", ("A",), ("n",)), (("u", (), ()), ("t", ("A",), ("D",))), (1, "c", 0), (0, 1), ("none",), ("none",)),
        ("end", ("u", (), ()), (), ("d",), ("z",), ("none",), ("none",)),
    ),
)


class Papers(Case):
    def paired(self, book, left, right, expected):
        arguments = [("book", book), ("left", left), ("right", right)]
        self.answers(papers, arguments, expected)
        self.answers(count_papers, arguments, len(expected))
        self.answers(is_pair, arguments, len(expected) > 0)

    def test_the_example(self):
        self.paired(E, LEFT, RIGHT, [PAPER])
        self.paired(E, ("some", "cat", "is", "black"), SOME_RIGHT, [])

    def test_other_texts_of_E(self):
        self.paired(E, SOME, SOME_RIGHT, [SOME_PAPER])
        self.paired(E, ("some", "cat", "is", "black"), ("sen", "un", "mir"), [
            (7, ("one",), ((1, ("one",), ((2, (), ()),)), (5, (), ())))
        ])
        for left, right in [(LEFT, SOME_RIGHT), (SOME, RIGHT), (("cat",), ("mir",)), (LEFT, ("zz",)), (("zz",), ("zz",)),
                            (RIGHT, LEFT), (LEFT, ("sen", "miro", "olu")), (LEFT, LEFT), (LEFT[:3], RIGHT), (LEFT, RIGHT[:2])]:
            self.paired(E, left, right, [])

    def test_the_start_sort_may_have_any_forms(self):
        book = E[:3] + ("noun",) + E[4:]
        self.paired(book, ("cat",), ("mir",), [(2, (), ())])
        self.paired(book, ("cat",), ("miro",), [(3, (), ())])
        self.paired(book, ("cats",), ("mir",), [])

    def test_variables_of_both_sides(self):
        # The first hole tells that C is m, the second one that A of `two` is q and its B the head's B.
        self.paired(VARIED, ("a", "b"), ("x", "y", "x"), [
            (0, ("p", value, "m"), ((1, (), ()), (2, ("q", value), ()))) for value in "mno"
        ])
        self.paired(VARIED, ("b", "b"), ("x", "y", "x"), [
            (0, (first, value, other), ((2, (first, other), ()), (2, ("q", value), ())))
            for first in "pq" for value in "mno" for other in "mno"
        ])
        self.paired(VARIED, ("b", "a"), ("x", "y", "x"), [])
        self.paired(VARIED, ("a", "c", "d", "b"), ("x", "y", "z", "x"), [
            (0, ("p", value, "n"), ((3, ("p", "m"), ((4, (), ()), (1, (), ()))), (2, ("q", value), ()))) for value in "mno"
        ])

    def test_several_papers(self):
        word = (2, (), ())
        self.paired(CATALAN, ("a", "a"), ("b", "b"), [(0, (), (word, word)), (1, (), (word, word))])
        pairs = [(rule, (), (word, word)) for rule in (0, 1)]
        self.paired(CATALAN, ("a",) * 3, ("b",) * 3, sorted(
            [(rule, (), (pair, word)) for rule in (0, 1) for pair in pairs]
            + [(rule, (), (word, pair)) for rule in (0, 1) for pair in pairs]
        ))

    def test_five_hundred(self):
        book = alike_five_hundred(False)
        found = papers(book, FOUR, FOUR_RIGHT)
        self.assertEqual(found, Naive(book).papers(FOUR, FOUR_RIGHT))
        self.assertEqual(len(found), 500)
        self.assertEqual(count_papers(book, FOUR, FOUR_RIGHT), 500)

    def test_five_hundred_and_one(self):
        book = alike_five_hundred(True)
        with self.assertRaises(TooMany):
            papers(book, FOUR, FOUR_RIGHT)
        self.assertEqual(count_papers(book, FOUR, FOUR_RIGHT), 501)
        self.assertIs(is_pair(book, FOUR, FOUR_RIGHT), True)
        self.assertEqual(len(papers(five_hundred(True), FOUR, ("w9", "x9", "y9", "z9"))), 1)

    def test_counts_far_beyond(self):
        for size, number in enumerate([1, 2, 8, 40, 224, 1344, 8448, 54912], start=1):
            self.assertEqual(count_papers(CATALAN, ("a",) * size, ("b",) * size), number)
            self.assertIs(is_pair(CATALAN, ("a",) * size, ("b",) * size), True)
        with self.assertRaises(TooMany):
            papers(CATALAN, ("a",) * 6, ("b",) * 6)
        self.assertEqual(count_papers(CATALAN, ("a",) * 8, ("b",) * 7), 0)

    def test_in_books_made_at_random(self):
        seen = {True: 0, False: 0}
        for seed in range(700, 800):
            book = random_book(seed, 3)
            naive = Naive(book)
            if not naive.few(3, 150):
                continue
            for count, other in itertools.product((1, 2, 3), repeat=2):
                made = naive.pairs(count, other)
                some = [("a", "b", "c", "zz")[:count], ("x", "y", "z")[:other]]
                for left, right in sorted(made)[:8] + [tuple(some)]:
                    expected = naive.papers(left, right)
                    seen[len(expected) > 0] += 1
                    self.assertEqual(papers(book, left, right), expected)
                    self.assertEqual(count_papers(book, left, right), len(expected))
                    self.assertEqual(count_papers(turned(book), right, left), len(expected))
                self.assertEqual(pairs_of(book, count, other), sorted(made))
        self.assertGreater(seen[True], 100)
        self.assertGreater(seen[False], 100)

    def test_errors(self):
        arguments = [("book", E), ("left", LEFT), ("right", RIGHT)]
        for function in (papers, count_papers, is_pair):
            self.refused(function, arguments)


class Holds(Case):
    def test_the_papers_of_the_two_texts_and_of_no_others(self):
        self.answers(paper_holds, [("book", E), ("left", LEFT), ("right", RIGHT), ("thing", PAPER)], True)
        for left, right in [(LEFT, RIGHT[::-1]), (SOME, SOME_RIGHT), (RIGHT, LEFT), (LEFT[:3], RIGHT), (LEFT, RIGHT[1:])]:
            self.assertIs(paper_holds(E, left, right, PAPER), False)
        self.assertIs(paper_holds(E, SOME, SOME_RIGHT, SOME_PAPER), True)

    def test_however_many_there_are(self):
        tree = (2, (), ())
        for rule in (0, 1, 0, 1, 0, 1, 0):
            tree = (rule, (), (tree, (2, (), ())))
        self.assertIs(paper_holds(CATALAN, ("a",) * 8, ("b",) * 8, tree), True)
        self.assertIs(paper_holds(CATALAN, ("a",) * 8, ("b",) * 7, tree), False)

    def test_what_is_no_paper(self):
        for thing in spoilt(PAPER) + strange_things() + [[PAPER], (PAPER,), LEFT, E]:
            self.assertIs(paper_holds(E, LEFT, RIGHT, thing), False)

    def test_readings_are_no_papers(self):
        # In E all variables stand on the right, so that the reading there is the paper again.
        self.assertIs(paper_holds(E, LEFT, RIGHT, side_reading(E, "right", PAPER)), True)
        self.assertIs(paper_holds(E, LEFT, RIGHT, side_reading(E, "left", PAPER)), False)

    def test_both_sides_have_to_agree(self):
        # Each side alone agrees; but `some` wants the same number on both sides.
        for binding in ("one", "many"):
            thing = (7, ("many",), ((1, (binding,), ((3, (), ()),)), (6, (), ())))
            self.assertIs(paper_holds(E, ("some", "cat", "is", "black"), SOME_RIGHT, thing), False)

    def test_very_many_nodes(self):
        tower = shared_tower((0, ()), (2, (), ()), 60)
        self.assertIs(paper_holds(CATALAN, ("a",) * 8, ("b",) * 8, tower), False)
        with self.assertRaises(BadPaper):
            made_by(CATALAN, tower)

    def test_errors(self):
        self.refused(paper_holds, [("book", E), ("left", LEFT), ("right", RIGHT), ("thing", None)])


class MadeBy(Case):
    def test_the_two_texts(self):
        self.answers(made_by, [("book", E), ("thing", PAPER)], (LEFT, RIGHT))
        self.answers(made_by, [("book", E), ("thing", SOME_PAPER)], (SOME, SOME_RIGHT))
        self.answers(made_by, [("book", LONG), ("thing", chain(2, 1))], (("a",) * 4, ("b",) * 8))

    def test_texts_of_nine_words(self):
        self.assertEqual(made_by(LONG, chain(2, 2)), (("a",) * 8, ("b",) * 7))
        for thing in (chain(3, 1), chain(3, 2), chain(4, 2), chain(7, 1)):
            with self.assertRaises(BadPaper):
                made_by(LONG, thing)
            for side in SIDES:
                with self.assertRaises(BadPaper):
                    side_reading(LONG, side, thing)
        # Nine words on the left, and no more than eight on the right.
        turned_long = turned(LONG)
        for thing in (chain(3, 2),):
            with self.assertRaises(BadPaper):
                made_by(turned_long, thing)
        self.assertEqual(made_by(turned_long, chain(2, 1)), (("b",) * 8, ("a",) * 4))

    def test_of_the_start_sort_alone(self):
        for thing in ((3, (), ()), PAPER[2][0], (6, (), ())):
            with self.assertRaises(BadPaper):
                made_by(E, thing)

    def test_errors(self):
        things = [PAPER[2]] + spoilt(PAPER) + strange_things()
        self.refused(made_by, [("book", E), ("thing", PAPER)], thing=(BadPaper, things))
        arguments = [("book", E), ("side", "right"), ("thing", PAPER)]
        self.refused(side_reading, arguments, thing=(BadPaper, things))


class SideReading(Case):
    def test_the_values_of_one_side(self):
        arguments = [("book", E), ("side", "left"), ("thing", PAPER)]
        self.answers(side_reading, arguments, (7, (), ((0, (), ((3, (), ()),)), (6, (), ()))))
        arguments = [("book", E), ("side", "right"), ("thing", PAPER)]
        self.answers(side_reading, arguments, PAPER)
        self.assertEqual(side_reading(E, "left", SOME_PAPER), (8, (), ((1, ("many",), ((4, (), ()),)), (6, (), ()))))

    def test_variables_of_both_sides(self):
        paper = (0, ("p", "o", "n"), ((3, ("p", "m"), ((4, (), ()), (1, (), ()))), (2, ("q", "o"), ())))
        self.assertEqual(made_by(VARIED, paper), (("a", "c", "d", "b"), ("x", "y", "z", "x")))
        self.assertEqual(side_reading(VARIED, "left", paper), (
            0, ("p", "n"), ((3, ("p",), ((4, (), ()), (1, (), ()))), (2, ("q",), ())),
        ))
        self.assertEqual(side_reading(VARIED, "right", paper), (
            0, ("o", "n"), ((3, ("m",), ((4, (), ()), (1, (), ()))), (2, ("o",), ())),
        ))

    def test_it_reads_the_text(self):
        for seed in range(60):
            book = random_book(seed, 3)
            naive = Naive(book)
            if not naive.few(3, 100):
                continue
            for count, other in itertools.product((1, 2, 3), repeat=2):
                for texts, tree in naive.whole(SIDES, SIDES, (count, other))[:10]:
                    for side, text in zip(SIDES, texts):
                        found = side_reading(book, side, tree)
                        self.assertEqual(found, side_tree(book, side, tree))
                        self.assertIs(reading_holds(book, side, text, found), True)
                        self.assertIn(found, readings(book, side, text))


class PairsOf(Case):
    def pairs(self, book, count, other, expected):
        self.answers(pairs_of, [("book", book), ("count", count), ("other", other)], expected)

    def test_all_counts_of_E(self):
        pairs = [(LEFT, RIGHT), (("some", "cat", "is", "black"), ("sen", "un", "mir")), (SOME, SOME_RIGHT)]
        for count, other in itertools.product(range(1, 9), repeat=2):
            self.pairs(E, count, other, pairs if (count, other) == (4, 3) else [])

    def test_all_counts_of_other_books(self):
        for count, other in itertools.product(range(1, 9), repeat=2):
            self.pairs(BARE, count, other, [(("a",), ("a",))] if count == other == 1 else [])
            least, six = (count - 2, other - 2), (count - 6, other - 1)
            made = [3 * far == near for far, near in (least, six)]
            fits = [made[0] and count >= 2, made[1] and count >= 6]
            self.pairs(LONG, count, other, [(("a",) * count, ("b",) * other)] if any(fits) else [])

    def test_a_pair_with_several_papers_stands_once(self):
        for count in range(1, 6):
            self.pairs(CATALAN, count, count, [(("a",) * count, ("b",) * count)])

    def test_five_hundred_papers(self):
        self.pairs(alike_five_hundred(False), 4, 4, [(FOUR, FOUR_RIGHT)])
        found = pairs_of(five_hundred(False), 4, 4)
        self.assertEqual(len(found), 500)
        self.assertEqual(found, sorted(found))
        self.assertEqual(found[0], (FOUR, ("z0", "x0", "w0", "y0")))

    def test_five_hundred_and_one_papers(self):
        for book in (five_hundred(True), alike_five_hundred(True)):
            with self.assertRaises(TooMany):
                pairs_of(book, 4, 4)
            self.assertEqual(pairs_of(book, 4, 3), [])
        for count in (6, 7, 8):
            with self.assertRaises(TooMany):
                pairs_of(CATALAN, count, count)

    def test_errors(self):
        arguments = [("book", E), ("count", 4), ("other", 3)]
        self.refused(pairs_of, arguments, other=(BadCount, bad_counts()))
        with self.assertRaises(BadCount):
            pairs_of(CATALAN, 8, 9)


class TextsOf(Case):
    def texts(self, book, side, count, expected):
        self.answers(texts_of, [("book", book), ("side", side), ("count", count)], expected)

    def test_all_counts_of_E(self):
        left = [LEFT, ("some", "cat", "is", "black"), SOME]
        right = [("sen", "un", "mir"), ("seni", "miro", "olu"), SOME_RIGHT]
        for count in range(1, 9):
            self.texts(E, "left", count, left if count >= 4 else [])
            self.texts(E, "right", count, right if count >= 3 else [])

    def test_shortest_first(self):
        book = plain_book(*[plain_rule(f"r{at}", "s", "", words, ("x",)) for at, words in enumerate(
            [("b", "a"), ("c",), ("a", "b", "c"), ("a", "c"), ("d",), ("a", "b", "b"), ("c",)]
        )])
        expected = [("c",), ("d",), ("a", "c"), ("b", "a"), ("a", "b", "b"), ("a", "b", "c")]
        self.texts(book, "left", 1, expected[:2])
        self.texts(book, "left", 2, expected[:4])
        self.texts(book, "left", 3, expected)
        self.texts(book, "left", 8, expected)
        self.texts(book, "right", 1, [("x",)])

    def test_all_readings_together(self):
        # 1 + 2 + 8 + 40 + 224 of at most five words; 1344 of six.
        self.texts(CATALAN, "left", 5, [("a",) * size for size in range(1, 6)])
        with self.assertRaises(TooMany):
            texts_of(CATALAN, "left", 6)

    def test_five_hundred_readings_and_one_more(self):
        self.texts(five_hundred(False), "left", 8, [FOUR])
        self.assertEqual(len(texts_of(five_hundred(False), "right", 8)), 500)
        self.texts(five_hundred(True), "left", 3, [])
        for side in SIDES:
            with self.assertRaises(TooMany):
                texts_of(five_hundred(True), side, 4)
        # Five hundred of four words, and one of one word.
        book = alike_five_hundred(False)
        further = book[:4] + (book[4] + (plain_rule("more", "s", "", ("c",), ("d",)),),)
        self.texts(further, "left", 3, [("c",)])
        for side in SIDES:
            with self.assertRaises(TooMany):
                texts_of(further, side, 4)

    def test_in_books_made_at_random(self):
        for seed in range(60):
            book = random_book(seed, 3)
            naive = Naive(book)
            if not naive.few(4, 200):
                continue
            for side in SIDES:
                for count in (1, 2, 3, 4):
                    made = {text for size in range(1, count + 1) for text in naive.texts(side, size)}
                    self.assertEqual(texts_of(book, side, count), sorted(made, key=lambda text: (len(text), text)))
                    self.assertLessEqual({word for text in made for word in text}, set(words_of(book, side)))

    def test_errors(self):
        self.refused(texts_of, [("book", E), ("side", "left"), ("count", 4)])


if __name__ == "__main__":
    unittest.main()
