import itertools
import random
import unittest

from pairedtongues.errors import BadLinks, BadPaper, NoPair, TooMany
from pairedtongues.pairs import crossings, links, open_links, papers, sure_links
from tests.cases import CATALAN, Case, FOUR, FOUR_RIGHT, alike_five_hundred, plain_book, plain_rule, spoilt
from tests.examples import E, Nasty, strange_things
from tests.naive import SIDES, Naive, random_book

LEFT = ("every", "cat", "is", "black")
RIGHT = ("seni", "miro", "olu")
PAPER = (7, ("many",), ((0, (), ((3, (), ()),)), (6, (), ())))
EXAMPLE = [(0, 2), (1, 1), (3, 0)]

# One node with several words on both sides, and holes between them; one with
# words on the left alone, one with words on the right alone.
SPREAD = plain_book(
    plain_rule("top", "s", "tuv", ("a", 0, "b", 1, 2), (2, "x", 1, 0, "y")),
    plain_rule("leaf", "t", "", ("c", "c"), ("z",)), plain_rule("left", "u", "tt", (0, "d", 1), (1, 0)),
    plain_rule("right", "v", "tt", (1, 0), (1, "w", 0)), plain_rule("one", "t", "", ("e",), ("e",)),
    sorts="stuv",
)
LEAF, ONE = (1, (), ()), (4, (), ())
SPREAD_PAPER = (0, (), (ONE, (2, (), (ONE, ONE)), (3, (), (ONE, ONE))))
SPREAD_LINKS = [
    # a e b e d e e e and e w e x e e e y
    (0, 3), (0, 7), (1, 6), (2, 3), (2, 7), (3, 5), (5, 4), (6, 0), (7, 2),
]

# Two readings on each side; what is linked in one paper is not in the other.
CHOICE = plain_book(
    plain_rule("keep", "s", "tt", ("a", 0, 1), (0, 1, "x")), plain_rule("turn", "s", "tt", ("a", 0, 1), (1, 0, "x")),
    plain_rule("b", "t", "", ("b",), ("y",)), sorts="st",
)


class Links(Case):
    def test_the_example(self):
        self.answers(links, [("book", E), ("thing", PAPER)], EXAMPLE)
        some = (8, ("many",), ((1, ("many",), ((4, (), ()),)), (6, (), ())))
        self.answers(links, [("book", E), ("thing", some)], [(0, 1), (1, 2), (3, 0)])

    def test_several_words_of_one_node(self):
        leaf_only = plain_book(plain_rule("r", "s", "", ("a", "b"), ("x", "y", "z")))
        self.answers(links, [("book", leaf_only), ("thing", (0, (), ()))], list(itertools.product((0, 1), (0, 1, 2))))
        self.answers(links, [("book", SPREAD), ("thing", SPREAD_PAPER)], sorted(SPREAD_LINKS))

    def test_no_links(self):
        book = plain_book(plain_rule("r", "s", "tt", (0, "a", 1), (0, 1)), plain_rule("t", "t", "tt", (0, 1), (0, "b", 1)),
                          plain_rule("w", "t", "", ("c",), ("d",)), sorts="st")
        word = (2, (), ())
        self.answers(links, [("book", book), ("thing", (0, (), (word, word)))], [(0, 0), (2, 1)])
        self.answers(links, [("book", book), ("thing", (0, (), ((1, (), (word, word)), word)))], [(0, 0), (1, 2), (3, 3)])

    def test_errors(self):
        things = [EXAMPLE] + spoilt(PAPER) + strange_things() + [(6, (), ())]
        self.refused(links, [("book", E), ("thing", PAPER)], thing=(BadPaper, things))


class SureAndOpen(Case):
    def linked(self, book, left, right, sure, open_ones):
        arguments = [("book", book), ("left", left), ("right", right)]
        self.answers(sure_links, arguments, sure)
        self.answers(open_links, arguments, open_ones)

    def test_one_paper(self):
        self.linked(E, LEFT, RIGHT, EXAMPLE, [])

    def test_several_papers(self):
        self.linked(CHOICE, ("a", "b", "b"), ("y", "y", "x"), [(0, 2)], [(1, 0), (1, 1), (2, 0), (2, 1)])
        self.linked(CATALAN, ("a", "a"), ("b", "b"), [], list(itertools.product((0, 1), repeat=2)))

    def test_however_many_papers(self):
        eight = list(range(8))
        # Each word may come to each place.
        self.linked(CATALAN, ("a",) * 8, ("b",) * 8, [], list(itertools.product(eight, repeat=2)))
        places = [(0, 2), (1, 1), (2, 3), (3, 0)]
        self.linked(alike_five_hundred(False), FOUR, FOUR_RIGHT, places, [])
        everything = list(itertools.product(range(4), repeat=2))
        self.linked(alike_five_hundred(True), FOUR, FOUR_RIGHT, places, [link for link in everything if link not in places])
        with self.assertRaises(TooMany):
            papers(alike_five_hundred(True), FOUR, FOUR_RIGHT)

    def test_no_pair(self):
        for left, right in [(("some", "cat", "is", "black"), ("seni", "un", "miro")), (("zz",), ("zz",)), (RIGHT, LEFT),
                            (LEFT, RIGHT[:2]), (("cat",), ("mir",))]:
            for function in (sure_links, open_links):
                with self.assertRaises(NoPair):
                    function(E, left, right)

    def test_in_books_made_at_random(self):
        seen = 0
        for seed in range(1100, 1200):
            book = random_book(seed, 3)
            naive = Naive(book)
            if not naive.few(4, 150):
                continue
            for count, other in itertools.product((2, 3, 4), repeat=2):
                for left, right in sorted(naive.pairs(count, other))[:5]:
                    found = [set(links(book, tree)) for tree in naive.papers(left, right)]
                    some, sure = set.union(*found), set.intersection(*found)
                    self.linked(book, left, right, sorted(sure), sorted(some - sure))
                    seen += some != sure
        self.assertGreater(seen, 5)

    def test_errors(self):
        for function in (sure_links, open_links):
            self.refused(function, [("book", E), ("left", LEFT), ("right", RIGHT)])


class Crossings(Case):
    def crosses(self, entries, expected):
        for thing in (list(entries), tuple(entries), list(entries)[::-1]):
            self.answers(crossings, [("links", thing)], expected)

    def test_the_example(self):
        self.crosses(EXAMPLE, 3)

    def test_few_entries(self):
        self.crosses([], 0)
        self.crosses([(0, 0)], 0)
        self.crosses([(0, 0), (1, 1)], 0)
        self.crosses([(0, 1), (1, 0)], 1)
        self.crosses([(0, 1), (1, 0), (2, 2)], 1)

    def test_equal_places_do_not_cross(self):
        self.crosses([(0, 1), (0, 0)], 0)
        self.crosses([(0, 1), (1, 1)], 0)
        self.crosses([(0, 0), (0, 1), (1, 0), (1, 1)], 1)

    def test_an_entry_that_stands_twice(self):
        self.crosses([(0, 1), (0, 1)], 0)
        self.crosses([(0, 1), (1, 0), (1, 0)], 2)
        self.crosses([(0, 1), (0, 1), (1, 0), (1, 0)], 4)

    def test_any_integers(self):
        self.crosses([(-5, 10 ** 59), (7, -10 ** 59), (-6, 3)], 2)

    def test_many_entries(self):
        dice = random.Random(5)
        for many in (2, 3, 5, 8, 13, 50, 120):
            entries = [(dice.randint(-9, 9), dice.randint(-9, 9)) for _ in range(many)]
            expected = sum((i - k) * (j - l) < 0 for (i, j), (k, l) in itertools.combinations(entries, 2))
            self.crosses(entries, expected)
        self.crosses([(at, -at) for at in range(3000)], 3000 * 2999 // 2)

    def test_bad_links(self):
        for entry in [(0,), (0, 1, 2), [0, 1], (0, True), (False, 1), ("0", 1), (0, None), None, "01", b"01", 0, Nasty(), (Nasty(), 0),
                      (0, Nasty()), (), {}, ((0, 1), (1, 0))]:
            for thing in ([entry], (entry,), [(0, 1), entry], [(0, 1)] * 5 + [entry, (2, 0)]):
                with self.subTest(repr(thing)), self.assertRaises(BadLinks):
                    crossings(thing)
        for thing in strange_things() + [{(0, 1): (1, 0)}, {(0, 1)}, "ab", range(2)]:
            if not isinstance(thing, list) or thing:
                with self.subTest(repr(thing)), self.assertRaises(BadLinks):
                    crossings(thing)


if __name__ == "__main__":
    unittest.main()
