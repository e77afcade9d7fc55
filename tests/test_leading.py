import itertools
import unittest

from pairedtongues.books import turned, words_of
from pairedtongues.errors import BadCount, BadPaper, BadReading, NoPair, TooMany
from pairedtongues.leading import (
    count_led_papers, first_led, kept_words, led, led_between, turned_papers, why_not, written,
)
from pairedtongues.pairs import is_pair, made_by, pairs_of, papers
from pairedtongues.readings import readings
from tests.cases import (
    CATALAN, FOUR, FOUR_RIGHT, Case, alike_five_hundred, bad_counts, five_hundred, left_variables, plain_book, plain_rule,
    spoilt,
)
from tests.examples import BARE, E, strange_things
from tests.naive import SIDES, Naive, random_book, side_tree

OTHER = {"left": "right", "right": "left"}
EVERY = ("every", "cat", "is", "black")
EVERY_RIGHT = ("seni", "miro", "olu")
PAPER = (7, ("many",), ((0, (), ((3, (), ()),)), (6, (), ())))
SOME = ("some", "cats", "are", "black")
SOME_RIGHT = ("seni", "un", "miro")

# Each a may become one or two words, or two of them one word.
ROOMY = plain_book(
    plain_rule("keep", "s", "ss", (0, 1), (0, 1)), plain_rule("turn", "s", "ss", (0, 1), (1, 0)),
    plain_rule("b", "s", "", ("a",), ("b",)), plain_rule("c", "s", "", ("a",), ("c",)),
    plain_rule("aa", "s", "", ("a",), ("a", "a")), plain_rule("z", "s", "", ("a", "a"), ("z",)),
    plain_rule("y", "s", "", ("d",), ("y", "y")), plain_rule("x", "s", "", ("d",), ("x", "x", "x")),
)

# On the right there are three words more with each rule, on the left one.
LONG = plain_book(
    plain_rule("top", "s", "s", ("a", 0), (0, "b", "b", "b")), plain_rule("two", "s", "", ("a", "a"), ("b", "b")),
    plain_rule("six", "s", "", ("a",) * 6, ("b",)),
)


class TurnedPapers(Case):
    def turns(self, book, side, reading, expected):
        self.answers(turned_papers, [("book", book), ("side", side), ("reading", reading)], expected)

    def test_of_E(self):
        fit = (7, (), ((0, (), ((3, (), ()),)), (6, (), ())))
        for reading in readings(E, "left", EVERY):
            self.turns(E, "left", reading, [PAPER] if reading == fit else [])
        for reading in readings(E, "right", EVERY_RIGHT):
            self.turns(E, "right", reading, [reading] if reading == PAPER else [])

    def test_the_values_of_the_other_side_vary(self):
        book = left_variables(("f", "f", "f"))
        text = ("y", "x", "z")
        reading, = readings(book, "right", text)
        found = turned_papers(book, "right", reading)
        self.assertEqual(len(found), 27)
        self.turns(book, "right", reading, papers(book, ("a", "b", "c"), text))
        for tree in found:
            self.turns(book, "left", side_tree(book, "left", tree), [tree])

    def test_texts_of_nine_words_are_none(self):
        for deep, last, expected in [(2, 1, 1), (3, 1, 0), (0, 2, 1), (2, 2, 1), (1, 1, 1)]:
            reading = (last, (), ())
            for _ in range(deep):
                reading = (0, (), (reading,))
            self.turns(LONG, "left", reading, [reading] * expected)

    def test_bound(self):
        # 27 * 18 papers, and 8 * 8 * 8.
        for nodes, number in ((("fff", "ffg"), 486), (("ggg", "ggg", "ggg"), 512)):
            book = left_variables(*[tuple(node) for node in nodes])
            text = ("y", "x") * len(nodes) + ("z",)
            reading, = readings(book, "right", text)
            self.assertEqual(count_led_papers(book, "right", text), number)
            if number > 500:
                with self.assertRaises(TooMany):
                    turned_papers(book, "right", reading)
            else:
                left = ("a", "b") * len(nodes) + ("c",)
                self.assertEqual(turned_papers(book, "right", reading), papers(book, left, text))

    def test_few_papers_of_one_of_very_many_readings(self):
        tree = (2, (), ())
        for rule in (0, 1, 0, 1, 0, 1, 0):
            tree = (rule, (), (tree, (2, (), ())))
        self.turns(CATALAN, "left", tree, [tree])

    def test_in_books_made_at_random(self):
        seen = {}
        for seed in range(1300, 1380):
            book = random_book(seed, 3)
            naive = Naive(book)
            if not naive.few(4, 60):
                continue
            for side, other, at in (("left", "right", 0), ("right", "left", 1)):
                for size in (1, 2, 3):
                    for texts, reading in naive.whole((side,), (side,), (size,))[:10]:
                        expected = sorted(
                            tree for pair in pairs_with(book, side, size) if pair[at] == texts[0]
                            for tree in naive.papers(*pair) if side_tree(book, side, tree) == reading
                        )
                        self.turns(book, side, reading, expected)
                        for tree in expected:
                            self.assertEqual(made_by(book, tree)[at], texts[0])
                        seen[min(len(expected), 2)] = seen.get(min(len(expected), 2), 0) + 1
        self.assertGreater(min(seen.get(number, 0) for number in (0, 1, 2)), 3)

    def test_errors(self):
        reading = readings(E, "left", EVERY)[0]
        things = [EVERY, (2, (), ())] + spoilt(reading) + strange_things()
        arguments = [("book", E), ("side", "left"), ("reading", reading)]
        self.refused(turned_papers, arguments, reading=(BadReading, things))
        nine = (0, (), ((0, (), ((0, (), ((2, (), ()),)),)),))
        with self.assertRaises(BadReading):
            turned_papers(LONG, "left", nine)


def pairs_with(book, side, size):
    """The pairs with so many words on this side, from pairs_of over all counts of the other one."""
    counts = [(size, other) if side == "left" else (other, size) for other in range(1, 9)]
    return [pair for count, other in counts for pair in pairs_of(book, count, other)]


class Led(Case):
    def leads(self, book, side, text, expected):
        arguments = [("book", book), ("side", side), ("text", text)]
        self.answers(led, arguments, expected)
        self.answers(first_led, arguments, expected[0] if expected else None)

    def test_the_examples(self):
        self.leads(E, "left", SOME, [SOME_RIGHT])
        self.leads(E, "right", EVERY_RIGHT, [EVERY])

    def test_other_texts(self):
        self.leads(E, "left", EVERY, [EVERY_RIGHT])
        self.leads(E, "right", SOME_RIGHT, [SOME])
        for text in [("every", "cats", "are", "black"), ("cat",), ("zz", "b0"), EVERY_RIGHT, ("is",) * 8]:
            self.leads(E, "left", text, [])
        self.leads(BARE, "left", ("a",), [("a",)])
        self.leads(BARE, "right", ("a", "a"), [])

    def test_one_and_many(self):
        self.leads(ROOMY, "left", ("d",), [("y", "y"), ("x", "x", "x")])
        self.leads(ROOMY, "left", ("a",), [("b",), ("c",), ("a", "a")])
        self.leads(ROOMY, "left", ("a", "a"), [
            ("z",), ("b", "b"), ("b", "c"), ("c", "b"), ("c", "c"), ("a", "a", "b"), ("a", "a", "c"), ("b", "a", "a"),
            ("c", "a", "a"), ("a", "a", "a", "a"),
        ])
        self.leads(ROOMY, "right", ("z",), [("a", "a")])
        self.leads(ROOMY, "right", ("y", "y"), [("d",)])
        self.leads(ROOMY, "right", ("y",), [])

    def test_texts_of_nine_words_are_none(self):
        self.leads(LONG, "left", ("a",) * 4, [("b",) * 8])
        self.leads(LONG, "left", ("a",) * 5, [])
        self.leads(LONG, "left", ("a",) * 8, [("b",) * 7])
        self.leads(turned(LONG), "right", ("a",) * 4, [("b",) * 8])

    def test_held_against_pairs_of(self):
        seen = 0
        for seed in range(1400, 1440):
            book = random_book(seed, 3)
            naive = Naive(book)
            if not naive.few(5, 80):
                continue
            for side in SIDES:
                texts = {text for size in range(1, 5) for text in naive.texts(side, size)}
                texts |= set(itertools.product(words_of(book, side) + ["zz"], repeat=2))
                sized = {size: pairs_with(book, side, size) for size in range(1, 5)}
                for text in sorted(texts)[:30]:
                    pairs = [pair for pair in sized[len(text)] if pair[SIDES.index(side)] == text]
                    expected = sorted({pair[1 - SIDES.index(side)] for pair in pairs}, key=lambda words: (len(words), words))
                    self.leads(book, side, text, expected)
                    self.assertEqual(count_led_papers(book, side, text), sum(len(naive.papers(*pair)) for pair in pairs))
                    seen += len(expected)
                    for other in expected[:5]:
                        # What a text is led to leads back to it.
                        self.assertIn(text, led(book, OTHER[side], other))
                        left, right = (text, other) if side == "left" else (other, text)
                        self.assertIs(is_pair(book, left, right), True)
        self.assertGreater(seen, 100)

    def test_five_hundred_papers(self):
        book = five_hundred(False)
        found = led(book, "left", FOUR)
        self.assertEqual(len(found), 500)
        self.assertEqual(found, sorted(found))
        self.assertEqual(count_led_papers(book, "left", FOUR), 500)
        self.leads(book, "right", ("z3", "x2", "w1", "y0"), [FOUR])
        self.leads(alike_five_hundred(False), "left", FOUR, [FOUR_RIGHT])

    def test_five_hundred_and_one_papers(self):
        for book in (five_hundred(True), alike_five_hundred(True)):
            with self.assertRaises(TooMany):
                led(book, "left", FOUR)
            self.answers(count_led_papers, [("book", book), ("side", "left"), ("text", FOUR)], 501)
        self.assertEqual(first_led(five_hundred(True), "left", FOUR), ("w9", "x9", "y9", "z9"))
        self.assertEqual(first_led(alike_five_hundred(True), "left", FOUR), FOUR_RIGHT)
        self.assertEqual(first_led(five_hundred(False), "left", FOUR), ("z0", "x0", "w0", "y0"))

    def test_papers_of_several_texts_together(self):
        # Papers with texts of each of the sixteen numbers of words of the other side.
        self.assertEqual([count_led_papers(ROOMY, "left", ("a",) * size) for size in (1, 2)], [3, 2 * 9 + 1])
        with self.assertRaises(TooMany):
            led(ROOMY, "left", ("a",) * 4)

    def test_far_beyond(self):
        self.assertEqual(first_led(CATALAN, "left", ("a",) * 8), ("b",) * 8)
        self.assertEqual(count_led_papers(CATALAN, "right", ("b",) * 8), 54912)
        self.assertEqual(first_led(ROOMY, "left", ("a",) * 8), ("z",) * 4)
        self.assertEqual(first_led(ROOMY, "left", ("a",) * 7), ("b", "z", "z", "z"))
        self.assertEqual(first_led(ROOMY, "left", ("d",) + ("a",) * 7), ("b", "y", "y", "z", "z", "z"))
        self.assertEqual(first_led(ROOMY, "left", ("a", "d", "a", "a", "d", "a")), ("b", "b", "y", "y", "y", "y", "z"))
        self.assertGreater(count_led_papers(ROOMY, "left", ("a",) * 8), 10 ** 6)
        with self.assertRaises(TooMany):
            led(CATALAN, "left", ("a",) * 8)

    def test_errors(self):
        arguments = [("book", E), ("side", "left"), ("text", EVERY)]
        for function in (led, first_led, count_led_papers, why_not):
            self.refused(function, arguments)


class WhyNot(Case):
    def why(self, book, side, text, expected):
        self.answers(why_not, [("book", book), ("side", side), ("text", text)], expected)

    def test_the_example(self):
        self.why(E, "left", ("every", "cats", "are", "black"), "reading")

    def test_led(self):
        self.why(E, "left", EVERY, None)
        self.why(E, "right", SOME_RIGHT, None)
        self.why(CATALAN, "left", ("a",) * 8, None)
        self.why(five_hundred(True), "left", FOUR, None)

    def test_no_reading(self):
        for text in [("zz",), EVERY_RIGHT, ("cat",), EVERY + ("black",)]:
            self.why(E, "left", text, "reading")

    def test_no_forms(self):
        # Without `black2` nothing agrees with `olu` on the right.
        book = E[:4] + (E[4][:6] + E[4][7:],)
        self.why(book, "left", EVERY, "forms")
        self.why(book, "left", ("some", "cat", "is", "black"), None)
        self.why(book, "right", EVERY_RIGHT, "reading")

    def test_too_long(self):
        for size in (5, 6, 7):
            self.why(LONG, "left", ("a",) * size, "long" if size == 5 else None)
        self.why(LONG, "left", ("a",) * 8, None)
        self.why(LONG, "left", ("a",), "reading")
        self.why(turned(LONG), "right", ("a",) * 5, "long")
        without_six = LONG[:4] + (LONG[4][:2],)
        self.why(without_six, "left", ("a",) * 8, "long")
        self.why(without_six, "left", ("a",) * 4, None)

    def test_long_if_any_reading_is_that_of_a_paper(self):
        long_rule = plain_rule("long", "t", "", ("a",), ("b",) * 5)
        forms = (("f", ("p", "q")),)
        sorts = (("s", "set", (), ()), ("t", "set", (), ()), ("v", "set", ("f",), ("f",)))
        none = ("none",)
        clash = [
            ("clash", ("s", (), ()), (("v", ("p",), ("q",)), ("v", ("p",), ("q",))), (0, 1), (0, 1), none, none),
            ("word", ("v", ("A",), ("A",)), (), ("a",), ("c",), none, none),
        ]
        top = plain_rule("top", "s", "tt", (0, 1), (0, 1))
        self.why((forms, (), sorts, "s", (top, long_rule, *clash)), "left", ("a", "a"), "long")
        self.why((forms, (), sorts, "s", (long_rule, *clash)), "left", ("a", "a"), "forms")
        self.why((forms, (), sorts, "s", (top, long_rule, *clash)), "left", ("a",), "reading")
        short = plain_rule("short", "t", "", ("a",), ("b",) * 3)
        self.why((forms, (), sorts, "s", (top, long_rule, short, *clash)), "left", ("a", "a"), None)


class Written(Case):
    def test_the_text_on_a_side(self):
        self.answers(written, [("book", E), ("side", "left"), ("thing", PAPER)], EVERY)
        self.answers(written, [("book", E), ("side", "right"), ("thing", PAPER)], EVERY_RIGHT)

    def test_errors(self):
        things = [(3, (), ())] + spoilt(PAPER) + strange_things()
        self.refused(written, [("book", E), ("side", "left"), ("thing", PAPER)], thing=(BadPaper, things))
        nine = (0, (), ((0, (), ((0, (), ((2, (), ()),)),)),))
        for side in SIDES:
            with self.assertRaises(BadPaper):
                written(LONG, side, nine)


class LedBetween(Case):
    def between(self, book, side, text, least, most, expected):
        arguments = [("book", book), ("side", side), ("text", text), ("count", least), ("other", most)]
        self.answers(led_between, arguments, expected)

    def test_all_counts(self):
        whole = led(ROOMY, "left", ("a", "a", "d"))
        self.assertGreater(len({len(text) for text in whole}), 4)
        for least in range(1, 9):
            for most in range(least, 9):
                self.between(ROOMY, "left", ("a", "a", "d"), least, most, [text for text in whole if least <= len(text) <= most])
                self.between(E, "right", EVERY_RIGHT, least, most, [EVERY] if least <= 4 <= most else [])
                self.between(E, "right", EVERY, least, most, [])

    def test_papers_with_such_texts_alone(self):
        book = five_hundred(True)
        short = plain_rule("short", "s", "", FOUR, ("short",))
        book = book[:4] + (book[4] + (short,),)
        self.between(book, "left", FOUR, 1, 3, [("short",)])
        self.between(book, "left", FOUR, 5, 8, [])
        for least, most in ((1, 4), (4, 4), (4, 8), (1, 8)):
            with self.assertRaises(TooMany):
                led_between(book, "left", FOUR, least, most)
        fewer = five_hundred(False)
        fewer = fewer[:4] + (fewer[4] + (short,),)
        self.assertEqual(len(led_between(fewer, "left", FOUR, 2, 8)), 500)
        with self.assertRaises(TooMany):
            led_between(fewer, "left", FOUR, 1, 4)

    def test_errors(self):
        arguments = [("book", E), ("side", "left"), ("text", EVERY), ("count", 3), ("other", 5)]
        self.refused(led_between, arguments, other=(BadCount, bad_counts() + [1, 2]))
        with self.assertRaises(BadCount):
            led_between(five_hundred(True), "left", FOUR, 5, 4)


class KeptWords(Case):
    def kept(self, book, left, right, expected):
        self.answers(kept_words, [("book", book), ("left", left), ("right", right)], expected)

    def test_words_of_both(self):
        self.kept(E, EVERY, EVERY_RIGHT, ())
        self.kept(BARE, ("a",), ("a",), ("a",))
        book = plain_book(plain_rule("r", "s", "", ("d", "b", "a", "b", "c"), ("b", "a", "e", "a", "d")))
        self.kept(book, ("d", "b", "a", "b", "c"), ("b", "a", "e", "a", "d"), ("a", "b", "d"))
        self.kept(alike_five_hundred(True), FOUR, FOUR_RIGHT, ())

    def test_no_pair(self):
        for left, right in [(("some", "cat", "is", "black"), SOME_RIGHT), (EVERY, EVERY), (("zz",), ("zz",)), (EVERY_RIGHT, EVERY)]:
            with self.assertRaises(NoPair):
                kept_words(E, left, right)

    def test_errors(self):
        self.refused(kept_words, [("book", E), ("left", EVERY), ("right", EVERY_RIGHT)])


if __name__ == "__main__":
    unittest.main()
