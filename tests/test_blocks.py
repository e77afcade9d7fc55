import itertools
import random
import unittest

from pairedtongues.books import words_of
from pairedtongues.errors import TooMany
from pairedtongues.pairs import count_papers, no_pair_holds, no_pair_paper
from tests.cases import CATALAN, Case, plain_book, plain_rule
from tests.examples import E, Nasty, strange_things
from tests.naive import SIDES, Naive, random_book

ONE, MANY = ("one",), ("many",)
LEFT = ("some", "cat", "is", "black")
RIGHT = ("seni", "un", "miro")
BLOCKS = [(1, 2, 2, 3, "noun", ONE, MANY), (3, 4, 0, 1, "quality", (), MANY)]
GOOD = ("every", "cat", "is", "black")
GOOD_RIGHT = ("seni", "miro", "olu")
GOOD_BLOCKS = [
    (0, 2, 1, 3, "phrase", ONE, MANY), (0, 4, 0, 3, "clause", (), ()), (1, 2, 1, 2, "noun", ONE, MANY),
    (3, 4, 0, 1, "quality", (), MANY),
]
UNKNOWN = ("zz",)
EIGHT, EIGHT_RIGHT = ("a",) * 8, ("b",) * 8


def block_rule(name, sort, terms, words, other_words):
    return (name, (sort, terms, ()), (), ("a",) * words, ("b",) * other_words, ("none",), ("none",))


def many_blocks(*further):
    """A book in which eight a's and eight b's have 1920 blocks of one word on each side, and those of the further rules."""
    sorts = tuple((name, "set", ("f", "f", "f"), ()) for name in "stuvwxyz")
    rules = [block_rule("all", "s", ("A", "B", "C"), 1, 1), block_rule("three", "t", ("A", "p", "p"), 1, 1)]
    for at, (terms, words, other_words) in enumerate(further):
        rules.append(block_rule(f"more{at}", "u", terms, words, other_words))
    return ((("f", ("p", "q", "r")),), (), sorts, "s", tuple(rules))


# 1920 + 64 + 16, and 1920 + 25 + 56.
AT_BOUND = many_blocks((("p", "p", "p"), 1, 1), (("p", "p", "q"), 5, 5))
ABOVE_BOUND = many_blocks((("p", "p", "p"), 4, 4), (("p", "p", "q"), 2, 1))


class Paper(Case):
    def paper(self, book, left, right, expected):
        self.answers(no_pair_paper, [("book", book), ("left", left), ("right", right)], expected)

    def test_texts_that_are_no_pair(self):
        self.paper(E, LEFT, RIGHT, BLOCKS)
        self.paper(E, ("cat",), ("miro",), [(0, 1, 0, 1, "noun", ONE, MANY)])
        self.paper(E, ("some", "cat"), ("un", "mir"), [(0, 2, 0, 2, "phrase", ONE, ONE), (1, 2, 1, 2, "noun", ONE, ONE)])
        self.paper(E, UNKNOWN, UNKNOWN, [])
        self.paper(E, RIGHT, LEFT, [])

    def test_texts_that_are_a_pair(self):
        self.paper(E, GOOD, GOOD_RIGHT, None)
        self.paper(CATALAN, EIGHT, EIGHT_RIGHT, None)
        self.paper(CATALAN, ("a",), ("b",), None)

    def test_unlike_lengths(self):
        self.paper(CATALAN, ("a",), ("b", "b"), [(0, 1, 0, 1, "s", (), ()), (0, 1, 1, 2, "s", (), ())])
        self.paper(CATALAN, ("a", "a"), ("b",), [(0, 1, 0, 1, "s", (), ()), (1, 2, 0, 1, "s", (), ())])

    def test_two_thousand_and_one_more(self):
        found = no_pair_paper(AT_BOUND, EIGHT, EIGHT_RIGHT)
        self.assertEqual(len(found), 2000)
        self.assertEqual(found, sorted(set(found)))
        self.assertEqual(found, Naive(AT_BOUND).blocks(EIGHT, EIGHT_RIGHT))
        self.assertIs(no_pair_holds(AT_BOUND, EIGHT, EIGHT_RIGHT, found), True)
        with self.assertRaises(TooMany):
            no_pair_paper(ABOVE_BOUND, EIGHT, EIGHT_RIGHT)
        self.assertEqual(len(Naive(ABOVE_BOUND).blocks(EIGHT, EIGHT_RIGHT)), 2001)

    def test_above_the_bound_also_where_they_are_a_pair(self):
        ends = [
            ("part", ("v", ("p", "p", "p"), ()), (), ("a",) * 6, ("b",) * 6, ("none",), ("none",)),
            ("whole", ("s", ("p", "p", "p"), ()), (("v", ("p", "p", "p"), ()),), ("a", 0, "a"), ("b", "b", 0), ("none",), ("none",)),
        ]
        book = ABOVE_BOUND[:4] + (ABOVE_BOUND[4] + tuple(ends),)
        self.assertEqual(count_papers(book, EIGHT, EIGHT_RIGHT), 1)
        with self.assertRaises(TooMany):
            no_pair_paper(book, EIGHT, EIGHT_RIGHT)
        self.assertIsNone(no_pair_paper(AT_BOUND[:4] + (AT_BOUND[4][1:] + tuple(ends),), EIGHT, EIGHT_RIGHT))

    def test_in_books_made_at_random(self):
        seen = {}
        for seed in range(900, 980):
            book = random_book(seed, 3)
            naive = Naive(book)
            if not naive.few(3, 60):
                continue
            dice = random.Random(seed)
            for size, other_size in itertools.product((1, 2, 3), repeat=2):
                left = tuple(dice.choice(words_of(book, "left")) for _ in range(size))
                right = tuple(dice.choice(words_of(book, "right")) for _ in range(other_size))
                made = sorted(naive.pairs(size, other_size))
                for texts in [(left, right)] + made[:1]:
                    blocks = naive.blocks(*texts)
                    expected = None if texts in made else blocks
                    self.assertEqual(no_pair_paper(book, *texts), expected)
                    self.assertIs(no_pair_holds(book, *texts, blocks), expected is not None)
                    for at in range(len(blocks)):
                        self.assertIs(no_pair_holds(book, *texts, blocks[:at] + blocks[at + 1:]), False)
                    seen[expected is None] = seen.get(expected is None, 0) + 1
        self.assertGreater(seen[True], 50)
        self.assertGreater(seen[False], 100)

    def test_errors(self):
        self.refused(no_pair_paper, [("book", E), ("left", LEFT), ("right", RIGHT)])


class Holds(Case):
    def holds(self, expected, thing, book=E, left=LEFT, right=RIGHT):
        arguments = [("book", book), ("left", left), ("right", right), ("thing", thing)]
        self.answers(no_pair_holds, arguments, expected)

    def test_the_least_list_in_any_order(self):
        self.holds(True, BLOCKS)
        self.holds(True, BLOCKS[::-1])

    def test_an_entry_is_lacking(self):
        self.holds(False, BLOCKS[:1])
        self.holds(False, BLOCKS[1:])
        self.holds(False, [])
        self.holds(True, [], left=UNKNOWN)
        self.holds(True, [], right=UNKNOWN)

    def test_greater_lists(self):
        self.holds(True, BLOCKS + [(0, 2, 1, 3, "noun", ONE, ONE)])
        self.holds(True, BLOCKS + [(0, 4, 0, 3, "phrase", ONE, MANY)])
        self.holds(True, BLOCKS + [(0, 4, 0, 2, "clause", (), ()), (1, 4, 0, 3, "clause", (), ())])
        self.holds(True, BLOCKS + [(0, 2, 1, 3, "phrase", ONE, ONE)])

    def test_a_greater_list_has_to_be_closed_too(self):
        # With a noun of the same number on both sides the phrase comes in, and the clause.
        self.holds(True, BLOCKS + [(1, 2, 2, 3, "noun", MANY, ONE)])
        self.holds(False, BLOCKS + [(1, 2, 2, 3, "noun", MANY, MANY)])
        self.holds(True, BLOCKS + [(1, 2, 2, 3, "noun", MANY, MANY), (0, 2, 1, 3, "phrase", MANY, MANY)])
        self.holds(False, BLOCKS + [(0, 2, 1, 3, "phrase", ONE, MANY)])
        self.holds(False, BLOCKS + [(0, 2, 1, 3, "phrase", ONE, MANY), (0, 4, 0, 3, "clause", (), ())])
        # The clause only comes in where the holes lie as the rule says on either side.
        self.holds(False, BLOCKS + [(0, 2, 1, 2, "phrase", ONE, MANY)])
        self.holds(True, BLOCKS + [(0, 2, 1, 2, "phrase", ONE, MANY), (0, 4, 0, 2, "clause", (), ())])
        self.holds(True, BLOCKS + [(0, 2, 2, 3, "phrase", ONE, MANY)])
        self.holds(True, BLOCKS + [(0, 1, 1, 3, "phrase", ONE, MANY)])

    def test_the_same_entry_on_both_sides_of_a_hole(self):
        # (0, 1) goes with (1, 2), and (1, 2) with (0, 1): what the rule wants the other way round.
        book = plain_book(
            plain_rule("top", "s", "tt", (0, 1), (0, 1)), plain_rule("x", "t", "", ("x",), ("x",)),
            plain_rule("y", "t", "", ("y",), ("y",)), sorts="st",
        )
        table = [(0, 1, 1, 2, "t", (), ()), (1, 2, 0, 1, "t", (), ())]
        self.holds(True, table, book=book, left=("x", "y"), right=("y", "x"))
        self.holds(False, table, book=book, left=("x", "y"), right=("x", "y"))
        same = [(0, 1, 0, 1, "t", (), ()), (1, 2, 1, 2, "t", (), ())]
        self.holds(False, same, book=book, left=("x", "y"), right=("x", "y"))
        self.holds(False, table + same, book=book, left=("x", "y"), right=("y", "x"))

    def test_an_entry_for_both_whole_texts(self):
        self.holds(False, BLOCKS + [(0, 4, 0, 3, "clause", (), ())])
        nouns = E[:3] + ("noun",) + E[4:]
        for left, right in itertools.product((ONE, MANY), repeat=2):
            thing = [(0, 1, 0, 1, "noun", left, right)]
            self.holds(False, thing, book=nouns, left=UNKNOWN, right=UNKNOWN)
            self.holds(True, thing, left=UNKNOWN, right=UNKNOWN)
            self.holds(True, thing, book=nouns, left=UNKNOWN * 2, right=UNKNOWN)
            self.holds(True, thing, book=nouns, left=UNKNOWN, right=UNKNOWN * 2)

    def test_none_of_a_pair(self):
        for size in range(5):
            for part in itertools.combinations(GOOD_BLOCKS, size):
                self.holds(False, list(part), left=GOOD, right=GOOD_RIGHT)

    def test_an_entry_twice(self):
        for entry in BLOCKS:
            self.holds(False, BLOCKS + [entry])

    def test_out_of_bounds(self):
        inside = (2, 3, 1, 2, "noun", ONE, ONE)
        self.holds(True, BLOCKS + [inside])
        for at, ends in enumerate([(-1, 3, 4, 10 ** 59, True, None, "2"), (2, 1, 0, -1, 5, True, None), (-1, 2, 3, True, False, None, "1"),
                                   (1, 0, -1, 4, None, "2")]):
            for end in ends:
                self.holds(False, BLOCKS + [inside[:at] + (end,) + inside[at + 1:]])
        self.holds(True, BLOCKS + [(3, 4, 2, 3, "noun", ONE, ONE)])
        self.holds(False, BLOCKS + [(3, 4, 2, 3, "noun", ONE, ONE)], right=RIGHT[:2])
        self.holds(False, BLOCKS + [(3, 4, 2, 3, "noun", ONE, ONE)], left=LEFT[:3])

    def test_sorts_and_forms(self):
        for entry in [("nouns", ONE, ONE), ("number", ONE, ONE), (None, ONE, ONE), ("noun", (), ONE), ("noun", ONE, ()),
                      ("noun", ONE, ("N",)), ("noun", (None,), ONE), ("noun", ["one"], ONE), ("noun", ONE, ["one"]),
                      ("quality", ONE, ONE), ("quality", (), ()), ("clause", (), ONE), (("noun",), ONE, ONE), ("noun", ONE, "one"),
                      (Nasty(), ONE, ONE), ("noun", (Nasty(),), ONE), ("noun", ONE, Nasty()), ("noun", ONE, ONE + ONE)]:
            with self.subTest(repr(entry)):
                self.assertIs(no_pair_holds(E, LEFT, RIGHT, BLOCKS + [(2, 3, 1, 2) + entry]), False)
        self.holds(True, BLOCKS + [(2, 3, 1, 2, "quality", (), ONE)])

    def test_entries_of_another_form(self):
        for thing in strange_things() + [(2, 3, 1, 2, "noun", ONE), (2, 3, 1, 2, "noun", ONE, ONE, ONE), (2, 3, "noun", ONE),
                                         [2, 3, 1, 2, "noun", ONE, ONE], "noun"]:
            with self.subTest(repr(thing)):
                self.assertIs(no_pair_holds(E, LEFT, RIGHT, BLOCKS + [thing]), False)

    def test_no_list(self):
        for thing in strange_things() + [tuple(BLOCKS), dict.fromkeys(BLOCKS), BLOCKS[0]]:
            with self.subTest(repr(thing)):
                self.assertIs(no_pair_holds(E, LEFT, RIGHT, thing), False)

    def test_two_thousand_and_more(self):
        forms = list(itertools.product("pqr", repeat=3))
        table = [(begin, begin + 1, other, other + 1, sort, form, ()) for begin in range(8) for other in range(8)
                 for sort in "tu" for form in forms]
        unknown = UNKNOWN * 8
        book = many_blocks()
        self.holds(True, table[:2000], book=book, left=unknown, right=unknown)
        self.holds(False, table[:2001], book=book, left=unknown, right=unknown)

    def test_errors(self):
        self.refused(no_pair_holds, [("book", E), ("left", LEFT), ("right", RIGHT), ("thing", None)])


if __name__ == "__main__":
    unittest.main()
