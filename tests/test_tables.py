import itertools
import random
import unittest

from pairedtongues.books import words_of
from pairedtongues.errors import TooMany
from pairedtongues.readings import no_reading_holds, no_reading_paper, stretches
from tests.cases import CATALAN, Case, plain_book, plain_rule
from tests.examples import E, Nasty, strange_things
from tests.naive import SIDES, Naive, random_book

ONE, MANY = ("one",), ("many",)
GOOD = ("every", "cat", "is", "black")
WRONG = ("some", "cats", "is", "black")
WRONG_STRETCHES = [(0, 2, "phrase", MANY), (1, 2, "noun", MANY), (3, 4, "quality", ())]

LETTERS = ("p", "q", "r")


def form_rule(name, sort, terms, words):
    """A rule of words alone; the sort has three features on the left."""
    return (name, (sort, terms, ()), (), ("a",) * words, ("b",), ("none",), ("none",))


def many_stretches(*further):
    """A book in which eight a's have 1728 stretches of one word; further has (terms, number of words)."""
    names = ["s", "t", "u", "v", "w", "x", "y", "z"]
    features = (("f", LETTERS),)
    sorts = tuple((name, "set", ("f", "f", "f"), ()) for name in names)
    rules = [form_rule(f"one{name}", name, ("A", "B", "C"), 1) for name in names]
    for at, (sort, terms, words) in enumerate(further):
        rules.append(form_rule(f"more{at}", sort, terms, words))
    return (features, (), sorts, "s", tuple(rules))


# 38 or 39 categories of two words, which have seven stretches each.
PAIRS = [("s", ("A", "B", "C"), 2), ("t", ("A", "B", "p"), 2)]
AT_BOUND = many_stretches(*PAIRS, ("u", ("p", "p", "p"), 2), ("u", ("p", "p", "q"), 2), ("s", ("p", "p", "p"), 3))
ABOVE_BOUND = many_stretches(*PAIRS, ("u", ("p", "p", "A"), 2))
EIGHT = ("a",) * 8


class Stretches(Case):
    def test_the_example(self):
        self.answers(stretches, [("book", E), ("side", "right"), ("text", ("cat",))], [])
        self.answers(stretches, [("book", E), ("side", "left"), ("text", ("cat",))], [(0, 1, "noun", ONE)])

    def test_of_whole_texts(self):
        self.answers(stretches, [("book", E), ("side", "left"), ("text", GOOD)], [
            (0, 2, "phrase", ONE), (0, 4, "clause", ()), (1, 2, "noun", ONE), (3, 4, "quality", ()),
        ])
        self.answers(stretches, [("book", E), ("side", "right"), ("text", ("seni", "miro", "olu"))], [
            (0, 1, "quality", MANY), (0, 3, "clause", ()), (1, 2, "noun", MANY), (1, 3, "phrase", MANY),
        ])

    def test_no_bound(self):
        self.assertEqual(len(stretches(AT_BOUND, "left", EIGHT)), 2000)
        self.assertEqual(len(stretches(ABOVE_BOUND, "left", EIGHT)), 2001)
        self.assertEqual(stretches(CATALAN, "left", EIGHT), [
            (begin, end, "s", ()) for begin in range(8) for end in range(begin + 1, 9)
        ])

    def test_in_books_made_at_random(self):
        for seed in range(60):
            book = random_book(seed, 3)
            naive = Naive(book)
            if not naive.few(3, 200):
                continue
            dice = random.Random(seed)
            for side in SIDES:
                for size in (1, 2, 3, 4):
                    text = tuple(dice.choice(words_of(book, side)) for _ in range(size))
                    expected = naive.stretches(side, text)
                    self.assertEqual(stretches(book, side, text), expected)
                    paper = no_reading_paper(book, side, text)
                    self.assertEqual(paper, None if naive.readings(side, text) else expected)
                    if paper is not None:
                        self.assertIs(no_reading_holds(book, side, text, paper), True)
                        for at in range(len(paper)):
                            self.assertIs(no_reading_holds(book, side, text, paper[:at] + paper[at + 1:]), False)
                    else:
                        self.assertIs(no_reading_holds(book, side, text, expected), False)

    def test_errors(self):
        self.refused(stretches, [("book", E), ("side", "left"), ("text", GOOD)])


class Paper(Case):
    def paper(self, book, side, text, expected):
        self.answers(no_reading_paper, [("book", book), ("side", side), ("text", text)], expected)

    def test_texts_without_readings(self):
        self.paper(E, "left", WRONG, WRONG_STRETCHES)
        self.paper(E, "left", ("cat",), [(0, 1, "noun", ONE)])
        self.paper(E, "left", ("zz", "zz"), [])
        self.paper(E, "right", GOOD, [])
        self.paper(E, "left", ("every", "cats"), [(1, 2, "noun", MANY)])

    def test_texts_with_readings(self):
        self.paper(E, "left", GOOD, None)
        self.paper(E, "right", ("seni", "miro", "olu"), None)
        self.paper(CATALAN, "left", EIGHT, None)

    def test_two_thousand(self):
        self.paper(AT_BOUND, "left", EIGHT, stretches(AT_BOUND, "left", EIGHT))

    def test_two_thousand_and_one(self):
        with self.assertRaises(TooMany):
            no_reading_paper(ABOVE_BOUND, "left", EIGHT)

    def test_above_the_bound_also_where_there_is_a_reading(self):
        rules = [
            ("five", ("s", ("p", "q", "p"), ()), (("s", ("A", "p", "p"), ()), ("s", ("p", "p", "p"), ())),
             (0, 1, "a", "a", "a"), (0, 1), ("none",), ("none",)),
            ("eight", ("s", ("p", "q", "q"), ()), (("s", ("p", "q", "p"), ()),), ("a", "a", 0, "a"), (0, "b"),
             ("none",), ("none",)),
        ]
        book = ABOVE_BOUND[:4] + (ABOVE_BOUND[4] + tuple(rules),)
        self.assertIn((0, 8, "s", ("p", "q", "q")), stretches(book, "left", EIGHT))
        with self.assertRaises(TooMany):
            no_reading_paper(book, "left", EIGHT)

    def test_errors(self):
        self.refused(no_reading_paper, [("book", E), ("side", "left"), ("text", WRONG)])
        self.refused(no_reading_paper, [("book", ABOVE_BOUND), ("side", "left"), ("text", WRONG)])


class Holds(Case):
    def holds(self, expected, thing, book=E, side="left", text=WRONG):
        arguments = [("book", book), ("side", side), ("text", text), ("thing", thing)]
        self.answers(no_reading_holds, arguments, expected)

    def test_the_least_table_in_any_order(self):
        for thing in itertools.permutations(WRONG_STRETCHES):
            self.holds(True, list(thing))

    def test_an_entry_is_lacking(self):
        for at in range(3):
            self.holds(False, WRONG_STRETCHES[:at] + WRONG_STRETCHES[at + 1:])
        self.holds(False, [])
        self.holds(True, [], text=("zz",))

    def test_greater_tables(self):
        self.holds(True, WRONG_STRETCHES + [(2, 3, "phrase", ONE)])
        self.holds(True, WRONG_STRETCHES + [(0, 1, "phrase", ONE)])
        self.holds(True, WRONG_STRETCHES + [(0, 3, "clause", ()), (1, 4, "clause", ())])
        self.holds(True, WRONG_STRETCHES + [(1, 2, "noun", ONE), (0, 2, "quality", ())][1:])

    def test_a_greater_table_has_to_be_closed_too(self):
        # A noun of the other number makes a phrase of it, and that one a clause of the whole text.
        self.holds(False, WRONG_STRETCHES + [(1, 2, "noun", ONE)])
        self.holds(False, WRONG_STRETCHES + [(1, 2, "noun", ONE), (0, 2, "phrase", ONE)])
        self.holds(False, WRONG_STRETCHES + [(1, 2, "noun", ONE), (0, 2, "phrase", ONE), (0, 4, "clause", ())])
        self.holds(False, WRONG_STRETCHES + [(1, 3, "noun", MANY)])
        self.holds(True, WRONG_STRETCHES + [(1, 3, "noun", MANY), (0, 3, "phrase", MANY)])

    def test_an_entry_for_the_whole_text(self):
        self.holds(False, WRONG_STRETCHES + [(0, 4, "clause", ())])
        self.holds(True, WRONG_STRETCHES + [(0, 4, "phrase", ONE), (0, 4, "noun", MANY)])
        nouns = E[:3] + ("noun",) + E[4:]
        for form in (ONE, MANY):
            table = [(0, 1, "phrase", ONE), (0, 1, "noun", form)]
            self.holds(False, table, book=nouns, text=("zz",))
            self.holds(True, table, text=("zz",))

    def test_no_closed_table_of_a_text_with_a_reading(self):
        found = [(0, 2, "phrase", ONE), (0, 4, "clause", ()), (1, 2, "noun", ONE), (3, 4, "quality", ())]
        for size in range(5):
            for part in itertools.combinations(found, size):
                self.holds(False, list(part), text=GOOD)

    def test_an_entry_twice(self):
        for entry in WRONG_STRETCHES:
            self.holds(False, WRONG_STRETCHES + [entry])

    def test_out_of_bounds(self):
        for entry in [(-1, 2, "noun", ONE), (2, 2, "noun", ONE), (3, 2, "noun", ONE), (3, 5, "noun", ONE), (4, 5, "noun", ONE),
                      (0, 10 ** 59, "noun", ONE), (True, 3, "noun", MANY), (0, True, "noun", MANY), (False, 1, "noun", MANY),
                      ("0", 1, "noun", MANY), (0, None, "noun", MANY)]:
            self.holds(False, WRONG_STRETCHES + [entry])
        self.holds(True, WRONG_STRETCHES + [(3, 4, "noun", ONE)])
        self.holds(False, WRONG_STRETCHES + [(3, 4, "noun", ONE)], text=WRONG[:3])

    def test_sorts_and_forms(self):
        for entry in [(2, 3, "nouns", ONE), (2, 3, "number", ONE), (2, 3, None, ONE), (2, 3, "noun", ()), (2, 3, "noun", ONE + ONE),
                      (2, 3, "noun", ("N",)), (2, 3, "noun", (None,)), (2, 3, "noun", ["one"]), (2, 3, "noun", "one"),
                      (2, 3, "quality", ONE), (2, 3, ("noun",), ONE), (2, 3, "noun", ("two",)), (2, 3, "noun", (Nasty(),)),
                      (2, 3, Nasty(), ONE), (2, 3, "noun", Nasty()), (Nasty(), 3, "noun", ONE), (2, 3, "noun", (("one",),))]:
            with self.subTest(repr(entry)):
                self.assertIs(no_reading_holds(E, "left", WRONG, WRONG_STRETCHES + [entry]), False)
        self.holds(True, [(0, 1, "quality", ONE), (0, 1, "noun", MANY)], side="right", text=("zz",))
        self.holds(False, [(0, 1, "quality", ())], side="right", text=("zz",))

    def test_entries_of_another_form(self):
        for thing in strange_things() + [(2, 3, "noun"), (2, 3, "noun", ONE, ()), [2, 3, "noun", ONE], "noun"]:
            with self.subTest(repr(thing)):
                self.assertIs(no_reading_holds(E, "left", WRONG, WRONG_STRETCHES + [thing]), False)

    def test_no_list(self):
        for thing in strange_things() + [tuple(WRONG_STRETCHES), dict.fromkeys(WRONG_STRETCHES), WRONG_STRETCHES[0]]:
            with self.subTest(repr(thing)):
                self.assertIs(no_reading_holds(E, "left", WRONG, thing), False)

    def test_two_thousand_and_more(self):
        for book, expected in ((AT_BOUND, True), (ABOVE_BOUND, False)):
            self.holds(expected, stretches(book, "left", EIGHT), book=book, text=EIGHT)
        # Of a text without known words each table is closed that has no whole phrase in it.
        names = ["t", "u", "v", "w", "x", "y", "z"]
        table = [(begin, begin + 1, name, form) for begin in range(8) for name in names
                 for form in itertools.product(LETTERS, repeat=3)]
        table += [(begin, begin + 2, name, form) for begin in range(7) for name in names
                  for form in itertools.product(LETTERS, repeat=3)]
        book = many_stretches()
        self.holds(True, table[:2000], book=book, text=("zz",) * 8)
        self.holds(False, table[:2001], book=book, text=("zz",) * 8)

    def test_errors(self):
        self.refused(no_reading_holds, [("book", E), ("side", "left"), ("text", WRONG), ("thing", None)])


if __name__ == "__main__":
    unittest.main()
