import itertools
import random
import unittest

from pairedtongues.errors import BadTerm, BadWorld
from pairedtongues.worlds import cells_in, follows, parts_apart, true_in, worlds_of
from tests.cases import Case
from tests.examples import BARE, E, GREAT, Nasty, strange_things
from tests.said import BLACK, CAT, NONE, SOME, bad_truths, chain, denied, plainly_true, random_term, tree

ALL = ("is", ("all", CAT), BLACK)
CATS = ("is", ("some", CAT), CAT)
ONE_MARK = (BARE[0], ("cat",), *BARE[2:])


class Worlds(Case):
    def test_without_marks(self):
        self.answers(worlds_of, [("book", BARE)], [(0,), (1,), (2,)])

    def test_with_one(self):
        self.answers(worlds_of, [("book", ONE_MARK)], [
            (0, 0), (0, 1), (1, 0), (0, 2), (1, 1), (2, 0), (1, 2), (2, 1), (2, 2),
        ])

    def test_with_two(self):
        expected = sorted(itertools.product(range(3), repeat=4), key=lambda world: (sum(world), world))
        self.assertEqual(len(expected), 81)
        self.answers(worlds_of, [("book", E)], expected)
        self.answers(worlds_of, [("book", GREAT)], expected)
        self.assertEqual(worlds_of(E)[:6], [(0, 0, 0, 0), (0, 0, 0, 1), (0, 0, 1, 0), (0, 1, 0, 0), (1, 0, 0, 0), (0, 0, 0, 2)])
        self.assertEqual(worlds_of(E)[-1], (2, 2, 2, 2))

    def test_errors(self):
        self.refused(worlds_of, [("book", E)])


class TrueIn(Case):
    def true(self, term, world, expected, book=E):
        self.answers(true_in, [("book", book), ("term", term), ("world", world)], expected)

    def test_each_word_of_parts(self):
        # No thing, one cat, one black cat, two black cats, one black cat and one other cat, black things alone.
        worlds = [(0, 0, 0, 0), (0, 0, 1, 0), (0, 0, 0, 1), (0, 0, 0, 2), (0, 0, 1, 1), (2, 2, 0, 0)]
        for word, expected in [("all", "101101"), ("some", "001110"), ("no", "110001"), ("more", "000100")]:
            for world, told in zip(worlds, expected):
                self.true(("is", (word, CAT), BLACK), world, told == "1")

    def test_two_things_with_unlike_marks_are_more(self):
        self.true(("is", ("more", ("either", CAT, BLACK)), ("either", CAT, BLACK)), (0, 1, 1, 0), True)
        self.true(("is", ("more", ("either", CAT, BLACK)), CAT), (2, 2, 1, 0), False)

    def test_each_word_of_sets(self):
        for term, cells in SETS:
            for cell in range(4):
                world = tuple(int(at == cell) for at in range(4))
                self.true(("is", ("some", term), ("not", NONE)), world, cell in cells)
                self.true(("is", ("some", ("not", NONE)), term), world, cell in cells)

    def test_each_word_of_truths(self):
        yes, no = ("is", ("no", NONE), NONE), ("is", ("some", NONE), NONE)
        for first, second in itertools.product((True, False), repeat=2):
            terms = tuple(yes if told else no for told in (first, second))
            self.true(("and", *terms), (0, 0, 0, 0), first and second)
            self.true(("or", *terms), (0, 0, 0, 0), first or second)
            self.true(("deny", terms[0]), (0, 0, 0, 0), not first)

    def test_and_and_or_of_parts(self):
        one = (0, 0, 0, 1)
        for first, second in itertools.product((("some", CAT), ("no", CAT)), repeat=2):
            told = [first[0] == "some", second[0] == "some"]
            self.true(("is", ("and", first, second), BLACK), one, all(told))
            self.true(("is", ("or", first, second), BLACK), one, any(told))

    def test_other_numbers_of_marks(self):
        self.true(("is", ("some", ("not", NONE)), ("not", NONE)), (0,), False, book=BARE)
        self.true(("is", ("more", ("not", NONE)), ("not", NONE)), (2,), True, book=BARE)
        self.true(("is", ("some", CAT), CAT), (2, 0), False, book=ONE_MARK)
        self.true(("is", ("some", CAT), CAT), (0, 1), True, book=ONE_MARK)

    def test_against_sets_of_things(self):
        dice = random.Random(11)
        for book, number in ((BARE, 60), (ONE_MARK, 60), (E, 200)):
            for _ in range(number):
                term = random_term(dice, "truth", book[1], dice.randint(3, 7))
                world = dice.choice(worlds_of(book))
                self.assertIs(true_in(book, term, world), plainly_true(term, book[1], world), term)

    def test_eighty_deep(self):
        for deep in (79, 80):
            self.true(denied(deep), (0, 0, 0, 0), deep % 2 == 1)
        # The set is seventy-nine deep, and the part with it.
        self.true(("is", ("all", chain(78, CAT)), chain(79, CAT)), (0, 0, 1, 0), True)
        self.true(("is", ("all", NONE), chain(79, CAT)), (0, 0, 1, 0), True)
        for term in (denied(81), ("is", ("all", chain(79, CAT)), CAT), ("is", ("all", CAT), chain(80, CAT)), denied(150)):
            with self.assertRaises(BadTerm):
                true_in(E, term, (0, 0, 0, 0))

    def test_three_hundred_terms(self):
        for term in (("is", ("all", tree(297)), NONE), ("is", ("all", tree(150)), tree(148))):
            for world in worlds_of(E)[::20]:
                self.true(term, world, plainly_true(term, E[1], world))
        for term in (("is", ("all", tree(298)), NONE), ("is", ("all", tree(150)), tree(149)), ("deny", ("is", ("all", tree(297)), NONE))):
            with self.assertRaises(BadTerm):
                true_in(E, term, (0, 0, 0, 0))

    def test_names_of_marks_are_no_terms(self):
        def marks(many):
            return CAT if many == 1 else ("both", marks(many // 2), marks(many - many // 2))

        self.true(("is", ("all", marks(149)), CAT), (0, 0, 0, 0), True)
        with self.assertRaises(BadTerm):
            true_in(E, ("is", ("all", marks(150)), CAT), (0, 0, 0, 0))

    def test_very_many_terms(self):
        term = SOME
        for _ in range(70):
            term = ("and", term, term)
        with self.assertRaises(BadTerm):
            true_in(E, term, (0, 0, 0, 0))

    def test_errors(self):
        worlds = [(), (0,), (0, 0, 0), (0, 0, 0, 0, 0), [0, 0, 0, 0], (0, 0, 0, 3), (-1, 0, 0, 0), (0, 0, 10 ** 59, 0), (True, 0, 0, 0),
                  (0, 0, 0, False), ("0", 0, 0, 0), (None, 0, 0, 0), (0, 0, 0, (0,)), "0000", None, 0, Nasty(), (Nasty(), 0, 0, 0)]
        arguments = [("book", E), ("term", SOME), ("world", (0, 0, 0, 0))]
        self.refused(true_in, arguments, term=(BadTerm, bad_truths()), world=(BadWorld, worlds))
        for book, bad in ((BARE, (0, 0)), (ONE_MARK, (0,)), (ONE_MARK, (0, 0, 0, 0))):
            with self.assertRaises(BadWorld):
                true_in(book, ("is", ("no", NONE), NONE), bad)


# Cells of E: 0 no mark, 1 black, 2 cat, 3 both.
SETS = [
    (NONE, []), (("not", NONE), [0, 1, 2, 3]), (BLACK, [1, 3]), (CAT, [2, 3]), (("not", CAT), [0, 1]), (("both", CAT, BLACK), [3]),
    (("either", CAT, BLACK), [1, 2, 3]), (("not", ("either", CAT, BLACK)), [0]), (("both", CAT, ("not", BLACK)), [2]),
    (("either", NONE, ("not", BLACK)), [0, 2]), (("both", NONE, CAT), []), (("either", ("not", CAT), ("both", CAT, BLACK)), [0, 1, 3]),
]


class CellsIn(Case):
    def cells(self, term, expected, book=E):
        self.answers(cells_in, [("book", book), ("term", term)], expected)

    def test_each_word(self):
        for term, cells in SETS:
            self.cells(term, cells)

    def test_other_numbers_of_marks(self):
        self.cells(("not", NONE), [0], book=BARE)
        self.cells(NONE, [], book=BARE)
        self.cells(CAT, [1], book=ONE_MARK)
        self.cells(("not", CAT), [0], book=ONE_MARK)
        self.cells(("mark", "b"), [2, 3], book=GREAT)

    def test_bounds(self):
        self.cells(chain(80, CAT), [0, 1])
        self.cells(chain(79, CAT), [2, 3])
        self.cells(tree(300), cells_in(E, tree(300)))
        for term in (chain(81, CAT), chain(150, CAT), tree(301), tree(1000)):
            with self.assertRaises(BadTerm):
                cells_in(E, term)

    def test_errors(self):
        terms = [SOME, ("all", CAT), ("hole", 0), ("not", ("hole", 0)), ("mark", "dog"), ("mark",), ("mark", "cat", "cat"), ("not",),
                 ("both", CAT), ("both", CAT, ("all", CAT)), ("either", SOME, SOME), ["none"], ("none", NONE), "none", ("not", ["none"]),
                 ("mark", CAT), ()] + strange_things()
        self.refused(cells_in, [("book", E), ("term", CAT)], term=(BadTerm, terms))
        with self.assertRaises(BadTerm):
            cells_in(ONE_MARK, BLACK)
        with self.assertRaises(BadTerm):
            cells_in(BARE, CAT)


class PartsApart(Case):
    def parts(self, term, other, expected, book=E):
        self.answers(parts_apart, [("book", book), ("term", term), ("other", other)], expected)
        self.answers(parts_apart, [("book", book), ("term", other), ("other", term)], expected)

    def test_the_example(self):
        self.parts(ALL, SOME, (0, 0, 0, 0))

    def test_none(self):
        self.parts(ALL, ALL, None)
        self.parts(SOME, ("is", ("some", BLACK), CAT), None)
        self.parts(ALL, ("deny", ("is", ("some", CAT), ("not", BLACK))), None)
        self.parts(SOME, ("deny", ("is", ("no", CAT), BLACK)), None)
        self.parts(("is", ("all", NONE), CAT), ("is", ("no", CAT), NONE), None)

    def test_the_least_world(self):
        self.parts(SOME, ("is", ("more", CAT), BLACK), (0, 0, 0, 1))
        self.parts(SOME, CATS, (0, 0, 1, 0))
        self.parts(("is", ("more", CAT), BLACK), ("is", ("more", CAT), CAT), (0, 0, 1, 1))
        self.parts(("is", ("some", ("not", CAT)), BLACK), ("is", ("some", NONE), NONE), (0, 1, 0, 0))
        self.parts(("is", ("more", ("not", CAT)), BLACK), ("is", ("some", NONE), NONE), (0, 2, 0, 0))
        self.parts(("is", ("more", ("not", NONE)), ("not", NONE)), ("is", ("some", NONE), NONE), (2,), book=BARE)

    def test_size_comes_first(self):
        # True of two things in the first cell, or of three in the last ones.
        two = ("is", ("more", ("not", ("either", CAT, BLACK))), ("not", NONE))
        three = ("and", ("is", ("more", ("both", CAT, BLACK)), CAT), ("is", ("some", ("both", CAT, ("not", BLACK))), CAT))
        self.parts(("or", two, three), ("is", ("some", NONE), NONE), (2, 0, 0, 0))
        self.parts(three, ("is", ("some", NONE), NONE), (0, 0, 1, 2))

    def test_against_all_worlds(self):
        dice = random.Random(12)
        seen = {True: 0, False: 0}
        for _ in range(80):
            book = dice.choice((BARE, ONE_MARK, E))
            term, other = [random_term(dice, "truth", book[1], dice.randint(3, 5)) for _ in range(2)]
            found = [world for world in itertools.product(range(3), repeat=2 ** len(book[1]))
                     if plainly_true(term, book[1], world) != plainly_true(other, book[1], world)]
            expected = min(found, key=lambda world: (sum(world), world)) if found else None
            self.parts(term, other, expected, book=book)
            seen[expected is None] += 1
        self.assertGreater(min(seen.values()), 5)

    def test_errors(self):
        arguments = [("book", E), ("term", SOME), ("other", ALL)]
        self.refused(parts_apart, arguments, term=(BadTerm, bad_truths()), other=(BadTerm, bad_truths()))


class Follows(Case):
    def follow(self, terms, term, expected, book=E):
        self.answers(follows, [("book", book), ("terms", terms), ("term", term)], expected)

    def test_the_example(self):
        self.follow((ALL, CATS), SOME, None)

    def test_none(self):
        self.follow((SOME,), CATS, None)
        self.follow((ALL,), ALL, None)
        self.follow((), ("is", ("no", NONE), CAT), None)
        self.follow((SOME, ("deny", SOME)), ("is", ("some", NONE), NONE), None)

    def test_the_least_world(self):
        self.follow((ALL,), SOME, (0, 0, 0, 0))
        self.follow((), SOME, (0, 0, 0, 0))
        self.follow((CATS,), SOME, (0, 0, 1, 0))
        self.follow((SOME,), ALL, (0, 0, 1, 1))
        self.follow((SOME, ("is", ("some", ("not", CAT)), BLACK)), ALL, (0, 1, 1, 1))
        self.follow((), ("deny", ("is", ("some", ("not", NONE)), ("not", NONE))), (1,), book=BARE)

    def test_each_term_counts(self):
        yes = ("is", ("no", NONE), NONE)
        for at in range(5):
            terms = (yes,) * at + (CATS,) + (yes,) * (4 - at)
            self.follow(terms, SOME, (0, 0, 1, 0))
        self.follow((yes,) * 5, SOME, (0, 0, 0, 0))

    def test_against_all_worlds(self):
        dice = random.Random(13)
        seen = {True: 0, False: 0}
        for _ in range(60):
            book = dice.choice((BARE, ONE_MARK, E))
            *terms, term = [random_term(dice, "truth", book[1], dice.randint(3, 5)) for _ in range(dice.randint(1, 6))]
            found = [world for world in itertools.product(range(3), repeat=2 ** len(book[1]))
                     if all(plainly_true(given, book[1], world) for given in terms) and not plainly_true(term, book[1], world)]
            expected = min(found, key=lambda world: (sum(world), world)) if found else None
            self.follow(tuple(terms), term, expected, book=book)
            seen[expected is None] += 1
        self.assertGreater(min(seen.values()), 5)

    def test_errors(self):
        rows = [(ALL,) * 6, [ALL], [], (ALL, CAT), (CAT,), ALL, (ALL, [SOME]), (ALL, ALL, ("deny", ("hole", 0))), (ALL, None), None, 0,
                "is", {}, Nasty(), (Nasty(),), ((ALL,),), (denied(81),)]
        arguments = [("book", E), ("terms", (ALL, CATS)), ("term", SOME)]
        self.refused(follows, arguments, terms=(BadTerm, rows), term=(BadTerm, bad_truths()))


if __name__ == "__main__":
    unittest.main()
