import itertools
import random
import unittest

from pairedtongues.agreeing import (
    bindings_for, clash, fitting_words, idle_features, loose_readings, mended, without_feature,
)
from pairedtongues.books import is_book, words_of
from pairedtongues.errors import BadName, BadPlace, BadReading, TooMany
from pairedtongues.pairs import pairs_of, papers
from pairedtongues.readings import readings
from pairedtongues.rows import read_book
from tests.cases import (
    CATALAN, FOUR, FOUR_RIGHT, Case, alike_five_hundred, five_hundred, left_variables, plain_book, plain_rule, shared_tower,
    spoilt,
)
from tests.examples import BARE, E, LEANING_TEXT, Nasty, strange_things
from tests.naive import SIDES, Naive, bare_tree, random_book

WRONG = ("some", "cats", "is", "black")
WRONG_LOOSE = (7, ((1, ((4, ()),)), (5, ())))
EVERY = ("every", "cat", "is", "black")

# One word more with each first rule on the left, three on the right.
LONG = plain_book(
    plain_rule("top", "s", "s", ("a", 0), (0, "b", "b", "b")), plain_rule("two", "s", "", ("a", "a"), ("b", "b")),
)

# Nodes that agree by themselves or not, wherever they stand: a pair of sort
# `t` wants one number in both its holes, a word has a number of its own.
DEEP = read_book("""\
feature number one two
marks
sort s set / number
sort t set number /
start s
rule top s / N
hole t one /
hole t two /
hole s / N
left 0 1 2
right 2 1 0
leftmeans none
rightmeans none
rule low s / N
left z
right z
leftmeans none
rightmeans none
rule pair t M /
hole t M /
hole t M /
left 1 0
right 1 0
leftmeans none
rightmeans none
rule one t one /
left a
right a
leftmeans none
rightmeans none
rule two t two /
left b
right b
leftmeans none
rightmeans none
rule four s / N
hole t one /
hole t one /
hole t two /
hole t two /
left 3 1 2 0
right 0 1 2 3
leftmeans none
rightmeans none""")
ONE, TWO = (3, ()), (4, ())
LOW = (1, ())


class LooseReadings(Case):
    def loose(self, book, side, text, expected):
        self.answers(loose_readings, [("book", book), ("side", side), ("text", text)], expected)

    def test_the_example(self):
        self.loose(E, "left", WRONG, [WRONG_LOOSE, (7, ((1, ((4, ()),)), (6, ())))])

    def test_other_texts(self):
        self.loose(E, "left", EVERY, [(7, ((0, ((noun, ()),)), (quality, ()))) for noun in (2, 3) for quality in (5, 6)])
        self.loose(E, "right", ("sen", "un", "miro"), [
            (rule, ((1, ((noun, ()),)), (5, ()))) for rule in (7, 8) for noun in (3, 4)
        ])
        self.loose(E, "left", ("cat",), [])
        self.loose(E, "left", ("zz",), [])
        self.loose(BARE, "right", ("a",), [(0, ())])

    def test_five_hundred(self):
        for book, text in ((five_hundred(False), FOUR), (alike_five_hundred(False), FOUR)):
            found = loose_readings(book, "left", text)
            self.assertEqual(found, Naive(book).loose("left", text))
            self.assertEqual(len(found), 500)
        self.assertEqual(len(loose_readings(alike_five_hundred(False), "right", FOUR_RIGHT)), 500)

    def test_five_hundred_and_one(self):
        for book, side, text in [(five_hundred(True), "left", FOUR), (alike_five_hundred(True), "right", FOUR_RIGHT),
                                 (CATALAN, "left", ("a",) * 8)]:
            with self.assertRaises(TooMany):
                loose_readings(book, side, text)

    def test_bindings_do_not_count(self):
        # Twenty-seven readings of each of them, but one loose reading.
        book = left_variables(*[("f", "f", "f")] * 3)
        self.loose(book, "left", ("a", "b") * 3 + ("c",), [loose_top(3)])

    def test_in_books_made_at_random(self):
        without = 0
        for seed in range(1500, 1560):
            book = random_book(seed, 3)
            naive = Naive(book)
            if not naive.few(3, 150):
                continue
            dice = random.Random(seed)
            for side in SIDES:
                for text in [dice.choices(words_of(book, side), k=size) for size in (1, 2, 2, 3, 3, 3, 3, 4)]:
                    text = tuple(text)
                    expected = naive.loose(side, text)
                    self.loose(book, side, text, expected)
                    without += len(expected) > 0 and not naive.readings(side, text)
        self.assertGreater(without, 10)

    def test_errors(self):
        self.refused(loose_readings, [("book", E), ("side", "left"), ("text", WRONG)])


def loose_top(many):
    """The loose reading of the one text of such a book with so many nodes."""
    return (2 * many, tuple((2 * at, ((2 * at + 1, ()),)) for at in range(many)))


def things_that_are_no_loose_readings():
    """None of them is a loose reading in E."""
    return [
        (2, ()), (0, ((2, ()),)), (7, (), ((0, (), ((2, (), ()),)), (5, (), ()))), (7, ((5, ()), (1, ((4, ()),)))),
    ] + spoilt(WRONG_LOOSE) + strange_things()


class BindingsFor(Case):
    def binds(self, book, side, reading, expected):
        self.answers(bindings_for, [("book", book), ("side", side), ("reading", reading)], expected)

    def test_of_E(self):
        self.binds(E, "left", WRONG_LOOSE, [])
        self.binds(E, "left", (7, ((1, ((2, ()),)), (5, ()))), [(7, (), ((1, ("one",), ((2, (), ()),)), (5, (), ())))])
        self.binds(E, "left", (7, ((0, ((3, ()),)), (6, ()))), [(7, (), ((0, (), ((3, (), ()),)), (6, (), ())))])
        self.binds(E, "right", (7, ((1, ((4, ()),)), (6, ()))), [(7, ("many",), ((1, ("many",), ((4, (), ()),)), (6, (), ())))])
        # What clashes on the right agrees on the left.
        self.binds(E, "right", (7, ((0, ((3, ()),)), (5, ()))), [])
        self.binds(E, "left", (7, ((0, ((3, ()),)), (5, ()))), [(7, (), ((0, (), ((3, (), ()),)), (5, (), ())))])

    def test_several_bindings(self):
        book = left_variables(("f", "f", "g"))
        self.binds(book, "left", loose_top(1), [
            (2, (), ((0, values, ((1, values, ()),)),)) for values in itertools.product("pqr", "pqr", "mn")
        ])
        self.binds(DEEP, "right", LOW, [(1, ("one",), ()), (1, ("two",), ())])
        self.binds(DEEP, "left", LOW, [(1, (), ())])

    def test_bound(self):
        # 27 * 18 readings, and 8 * 8 * 8.
        fits = left_variables(("f", "f", "f"), ("f", "f", "g"))
        found = bindings_for(fits, "left", loose_top(2))
        self.assertEqual(len(found), 486)
        self.assertEqual(found, readings(fits, "left", ("a", "b", "a", "b", "c")))
        with self.assertRaises(TooMany):
            bindings_for(left_variables(*[("g", "g", "g")] * 3), "left", loose_top(3))

    def test_in_books_made_at_random(self):
        seen = {}
        for seed in range(1600, 1680):
            book = random_book(seed, 3)
            naive = Naive(book)
            if not naive.few(4, 150):
                continue
            for side in SIDES:
                for size in (1, 2, 3, 4):
                    for texts, reading in naive.whole((), (side,), (size,))[:8]:
                        expected = [tree for tree in naive.readings(side, texts[0]) if bare_tree(tree) == reading]
                        self.binds(book, side, reading, expected)
                        self.assertIs(clash(book, side, reading) is None, len(expected) > 0)
                        self.assertEqual(clash(book, side, reading), plain_clash(naive, side, reading, ()))
                        many = min(len(expected), 2)
                        seen[many] = seen.get(many, 0) + 1
        self.assertGreater(min(seen[number] for number in (0, 1, 2)), 20)

    def test_errors(self):
        arguments = [("book", E), ("side", "left"), ("reading", WRONG_LOOSE)]
        for function in (bindings_for, clash):
            self.refused(function, arguments, reading=(BadReading, things_that_are_no_loose_readings()))

    def test_very_many_nodes(self):
        for function in (bindings_for, clash):
            with self.assertRaises(BadReading):
                function(CATALAN, "left", shared_tower((0,), (2, ()), 60))

    def test_eight_words_and_nine(self):
        reading = (1, ())
        for size in range(2, 12):
            for side, words in (("left", size), ("right", 3 * size - 4)):
                if words <= 8:
                    self.assertEqual(len(bindings_for(LONG, side, reading)), 1)
                    self.assertIsNone(clash(LONG, side, reading))
                else:
                    for function in (bindings_for, clash):
                        with self.assertRaises(BadReading):
                            function(LONG, side, reading)
            reading = (0, (reading,))


def plain_clash(naive, side, node, path):
    """The path of the first node whose own part is that of no reading, by looking at all readings of all categories."""
    for at, child in enumerate(node[-1]):
        found = plain_clash(naive, side, child, path + (at,))
        if found is not None:
            return found
    size = words_in(naive.book, side, node)
    parts = [bare_tree(tree) for head in naive.heads((side,)) for _, tree in naive.trees((side,), (side,), head, (size,))]
    return None if node in parts else path


def words_in(book, side, node):
    """The number of words that the part reads."""
    items = book[4][node[0]][3 + SIDES.index(side)]
    return sum(1 if isinstance(item, str) else words_in(book, side, node[-1][item]) for item in items)


class Clash(Case):
    def clashes(self, book, side, reading, expected):
        self.answers(clash, [("book", book), ("side", side), ("reading", reading)], expected)

    def test_the_example(self):
        self.clashes(E, "left", WRONG_LOOSE, ())
        self.clashes(E, "left", (7, ((1, ((4, ()),)), (6, ()))), ())

    def test_none(self):
        self.clashes(E, "left", (7, ((0, ((2, ()),)), (5, ()))), None)
        self.clashes(DEEP, "left", (0, (ONE, TWO, LOW)), None)
        self.clashes(DEEP, "left", LOW, None)

    def test_at_a_hole(self):
        self.clashes(E, "left", (8, ((0, ((4, ()),)), (5, ()))), (0,))
        self.clashes(E, "right", (7, ((0, ((2, ()),)), (5, ()))), (0,))
        self.clashes(DEEP, "left", (0, ((2, (ONE, TWO)), TWO, LOW)), (0,))
        self.clashes(DEEP, "left", (0, (ONE, (2, (ONE, TWO)), LOW)), (1,))
        self.clashes(DEEP, "left", (0, (ONE, TWO, (0, (TWO, TWO, LOW)))), (2,))
        self.clashes(DEEP, "left", (5, (ONE, ONE, TWO, (2, (TWO, ONE)))), (3,))

    def test_what_the_parent_wants_is_its_own_affair(self):
        # Each child is part of a reading; the parent alone clashes.
        self.clashes(DEEP, "left", (0, (TWO, ONE, LOW)), ())
        self.clashes(DEEP, "left", (0, ((2, (TWO, TWO)), TWO, LOW)), ())
        self.clashes(DEEP, "left", (0, (ONE, TWO, (0, (TWO, TWO, LOW)))), (2,))

    def test_deep_within(self):
        inner = (2, (ONE, TWO))
        self.clashes(DEEP, "left", (0, ((2, ((2, (ONE, inner)), ONE)), TWO, LOW)), (0, 0, 1))
        self.clashes(DEEP, "left", (0, ((2, ((2, (inner, ONE)), ONE)), TWO, LOW)), (0, 0, 0))
        self.clashes(DEEP, "left", (0, (ONE, (2, (TWO, (2, (TWO, inner)))), LOW)), (1, 1, 1))

    def test_the_first_of_several(self):
        inner = (2, (ONE, TWO))
        self.clashes(DEEP, "left", (0, (inner, inner, LOW)), (0,))
        self.clashes(DEEP, "left", (5, (ONE, inner, inner, (2, (inner, ONE)))), (1,))
        # Hole 3 stands first on the left, but hole 0 is looked at first, and children ahead of their node.
        self.clashes(DEEP, "left", (5, (ONE, TWO, TWO, inner)), (3,))
        self.clashes(DEEP, "left", (5, (inner, ONE, TWO, inner)), (0,))
        self.clashes(DEEP, "left", (5, ((2, (ONE, inner)), ONE, TWO, TWO)), (0, 1))

    def test_the_side_counts(self):
        self.clashes(DEEP, "right", (0, (TWO, TWO, (0, (TWO, ONE, LOW)))), None)
        self.clashes(E, "right", (7, ((1, ((2, ()),)), (6, ()))), ())
        self.clashes(E, "left", (7, ((1, ((2, ()),)), (6, ()))), None)


class Mended(Case):
    def mends(self, book, side, text, expected):
        self.answers(mended, [("book", book), ("side", side), ("text", text)], expected)

    def test_the_example(self):
        self.mends(E, "left", WRONG, (1, ("some", "cat", "is", "black")))

    def test_of_E(self):
        self.mends(E, "left", EVERY, (0, EVERY))
        self.mends(E, "left", ("zz", "cats", "zz", "black"), (2, ("some", "cats", "are", "black")))
        self.mends(E, "left", ("zz", "zz", "zz", "zz"), (4, EVERY))
        self.mends(E, "left", ("every", "cats", "are", "black"), (1, ("some", "cats", "are", "black")))
        self.mends(E, "left", ("every", "cats", "is", "cat"), (2, EVERY))
        self.mends(E, "right", ("seni", "un", "mir"), (1, ("sen", "un", "mir")))
        self.mends(E, "right", ("olu", "miro", "seni"), (2, ("seni", "miro", "olu")))
        for text in (("every",), ("every", "cat"), EVERY + ("black",), ("zz",) * 8):
            self.mends(E, "left", text, None)

    def test_the_first_of_equally_near_ones(self):
        book = plain_book(*[plain_rule(f"r{at}", "s", "", words, ("x",)) for at, words in enumerate(
            [("b", "c"), ("a", "d"), ("c", "b"), ("a", "c"), ("e", "e")]
        )])
        self.mends(book, "left", ("z", "z"), (2, ("a", "c")))
        self.mends(book, "left", ("e", "z"), (1, ("e", "e")))
        self.mends(book, "left", ("z", "c"), (1, ("a", "c")))
        self.mends(book, "left", ("a", "b"), (1, ("a", "c")))
        self.mends(book, "left", ("b", "b"), (1, ("b", "c")))
        self.mends(book, "left", ("c", "d"), (1, ("a", "d")))
        self.mends(book, "left", ("z",), None)
        self.mends(book, "right", ("z",), (1, ("x",)))

    def test_far_beyond_five_hundred_readings(self):
        self.mends(CATALAN, "left", ("z",) * 8, (8, ("a",) * 8))
        self.mends(CATALAN, "left", ("a",) * 7 + ("z",), (1, ("a",) * 8))

    def test_in_books_made_at_random(self):
        seen = {}
        for seed in range(1700, 1780):
            book = random_book(seed, 3)
            naive = Naive(book)
            if not naive.few(4, 200):
                continue
            dice = random.Random(seed)
            for side in SIDES:
                for size in (1, 2, 3, 4):
                    for _ in range(4):
                        text = tuple(dice.choice(words_of(book, side) + ["zz"]) for _ in range(size))
                        near = sorted((sum(a != b for a, b in zip(text, other)), other) for other in naive.texts(side, size))
                        self.mends(book, side, text, near[0] if near else None)
                        far = near[0][0] if near else None
                        seen[far] = seen.get(far, 0) + 1
                        for place in range(size):
                            fit = sorted({other[place] for other in naive.texts(side, size)
                                          if text[:place] + text[place + 1:] == other[:place] + other[place + 1:]})
                            self.assertEqual(fitting_words(book, side, text, place), fit)
        self.assertGreater(min(seen.get(far, 0) for far in (None, 0, 1, 2, 3)), 20)

    def test_errors(self):
        self.refused(mended, [("book", E), ("side", "left"), ("text", WRONG)])


class FittingWords(Case):
    def fits(self, book, side, text, place, expected):
        self.answers(fitting_words, [("book", book), ("side", side), ("text", text), ("place", place)], expected)

    def test_with_the_word_itself(self):
        text = ("some", "cat", "is", "black")
        for place, words in enumerate([["every", "some"], ["cat"], ["is"], ["black"]]):
            self.fits(E, "left", text, place, words)
        self.fits(E, "right", ("seni", "un", "miro"), 2, ["miro"])
        self.fits(ROUND_WORDS, "left", ("a", "b"), 1, ["a", "b", "c"])

    def test_without_it(self):
        for place, words in enumerate([[], ["cat"], ["are"], []]):
            self.fits(E, "left", WRONG, place, words)
        self.fits(E, "left", ("some", "zz", "are", "black"), 1, ["cats"])
        self.fits(E, "right", ("seni", "un", "zz"), 2, ["miro"])
        self.fits(E, "right", ("zz", "un", "mir"), 0, ["sen"])
        self.fits(ROUND_WORDS, "left", ("zz", "b"), 0, ["a", "b"])
        self.fits(E, "left", ("zz",), 0, [])
        self.fits(E, "left", ("zz", "cat", "zz", "black"), 0, [])

    def test_far_beyond_five_hundred_readings(self):
        for place in range(8):
            self.fits(CATALAN, "left", ("a",) * place + ("z",) + ("a",) * (7 - place), place, ["a"])

    def test_bad_place(self):
        places = [-1, 4, 10 ** 59, True, False, None, "1", (1,), [1], b"1", Nasty()]
        arguments = [("book", E), ("side", "left"), ("text", WRONG), ("place", 0)]
        self.refused(fitting_words, arguments, place=(BadPlace, places))
        with self.assertRaises(BadPlace):
            fitting_words(E, "left", WRONG[:3], 3)


# The same word alone or in several rules, words that stand in no rule alone.
ROUND_WORDS = plain_book(
    plain_rule("pair", "s", "tu", (0, 1), (1, 0)), plain_rule("a", "t", "", ("a",), ("x",)), plain_rule("b", "t", "", ("b",), ("x",)),
    plain_rule("c", "u", "", ("c",), ("x",)), plain_rule("d", "u", "", ("b",), ("y",)), plain_rule("whole", "s", "", ("a", "a"), ("z",)),
    sorts="stu",
)


class WithoutFeature(Case):
    def test_of_E(self):
        bare = (
            (), E[1],
            (("clause", "truth", (), ()), ("phrase", "part", (), ()), ("noun", "set", (), ()), ("quality", "set", (), ())),
            E[3],
            tuple((name, (head[0], (), ()), tuple((hole[0], (), ()) for hole in holes), *rest) for name, head, holes, *rest in E[4]),
        )
        self.answers(without_feature, [("book", E), ("name", "number")], bare)
        self.assertIs(is_book(bare), True)

    def test_one_of_two(self):
        book = read_book(LEANING_TEXT)
        without_case = (
            (("number", ("one", "many")),), ("cat",), (("s", "truth", (), ("number", "number")), ("n", "set", ("number",), ())), "s",
            (
                ("join", ("s", (), ("N", "many")), (("n", ("N",), ()), ("s", (), ("one", "N")))) + book[4][0][3:],
                ("cat", ("n", ("one",), ())) + book[4][1][2:],
            ),
        )
        self.answers(without_feature, [("book", book), ("name", "case")], without_case)
        without_number = (
            (("case", ("nom", "acc")),), ("cat",), (("s", "truth", ("case",), ()), ("n", "set", (), ())), "s",
            (
                ("join", ("s", ("nom",), ()), (("n", (), ()), ("s", ("acc",), ()))) + book[4][0][3:],
                ("cat", ("n", (), ())) + book[4][1][2:],
            ),
        )
        self.answers(without_feature, [("book", book), ("name", "number")], without_number)

    def test_it_is_a_book(self):
        for seed in range(40):
            book = random_book(seed, 3)
            for name, _ in book[0]:
                found = without_feature(book, name)
                self.assertIs(is_book(found), True)
                self.assertNotIn(name, dict(found[0]))
                for rule, old in zip(found[4], book[4]):
                    self.assertEqual(rule[3:], old[3:])

    def test_errors(self):
        names = ["numbers", "", "one", "noun", "case", None, 0, True, ("number",), ["number"], b"number", Nasty()]
        self.refused(without_feature, [("book", E), ("name", "number")], name=(BadName, names))


# Of three features: `z` parts nothing, `y` parts texts of two words, `x` those of four.
PARTED = read_book("""\
feature z one two
feature y one two
feature x one two
marks
sort s set / z
sort t set y x / z
start s
rule pair s / A
hole t B one / A
hole t B two / A
left 0 1
right 0 1
leftmeans none
rightmeans none
rule quad s / A
hole t one C / A
hole t two C / A
left u 0 1 u
right u 0 1 u
leftmeans none
rightmeans none
rule a t one one / A
left a
right a
leftmeans none
rightmeans none
rule b t two two / A
left b
right b
leftmeans none
rightmeans none
rule c t one two / A
left c
right c
leftmeans none
rightmeans none
rule d t two one / A
left d
right d
leftmeans none
rightmeans none""")


class IdleFeatures(Case):
    def idle(self, book, count, expected):
        self.answers(idle_features, [("book", book), ("count", count)], expected)

    def test_of_E(self):
        for count in range(1, 9):
            self.idle(E, count, ["number"] if count < 4 else [])
        self.idle(BARE, 8, [])

    def test_several_features(self):
        self.idle(PARTED, 1, ["x", "y", "z"])
        self.idle(PARTED, 2, ["z"])
        self.idle(PARTED, 3, ["z"])
        self.idle(PARTED, 8, ["z"])
        without_pair = PARTED[:4] + (PARTED[4][1:],)
        self.idle(without_pair, 3, ["x", "y", "z"])
        self.idle(without_pair, 4, ["z"])

    def test_in_books_made_at_random(self):
        seen = {True: 0, False: 0}
        for seed in range(1900, 1960):
            book = random_book(seed)
            naive = Naive(book)
            if not book[0] or not naive.few(3, 60):
                continue
            others = {name: Naive(without_feature(book, name)) for name, _ in book[0]}
            if not all(other.few(3, 60) for other in others.values()):
                continue
            for count in (1, 2, 3):
                sizes = list(itertools.product(range(1, count + 1), repeat=2))
                pairs = [naive.pairs(*size) for size in sizes]
                expected = sorted(name for name in others if [others[name].pairs(*size) for size in sizes] == pairs)
                self.idle(book, count, expected)
                for name in others:
                    seen[name in expected] += 1
        self.assertGreater(min(seen.values()), 8)

    def test_five_hundred_papers(self):
        # The feature that is added here is one that nothing has.
        for further, expected in ((False, ["f"]), (True, None)):
            book = (("f", ("p",)),), *five_hundred(further)[1:]
            self.idle(book, 3, ["f"])
            if further:
                with self.assertRaises(TooMany):
                    idle_features(book, 4)
            else:
                self.idle(book, 4, expected)
        with self.assertRaises(TooMany):
            idle_features(five_hundred(True), 4)
        self.idle(five_hundred(False), 8, [])

    def test_papers_of_the_book_without_a_feature(self):
        # With the feature the further rule has no paper, as nothing has the form that it wants.
        features = (("f", ("p", "q")),)
        sorts = (*five_hundred(False)[2], ("k", "set", ("f",), ()))
        none = ("none",)
        further = (("more", ("s", (), ()), (("k", ("p",), ()),), ("a", 0), ("b", 0), none, none),
                   ("k", ("k", ("q",), ()), (), ("a",), ("b",), none, none))
        book = (features, (), sorts, "s", five_hundred(False)[4] + further)
        self.idle(book, 1, ["f"])
        self.idle(book, 2, [])
        self.idle(book, 3, [])
        with self.assertRaises(TooMany):
            idle_features(book, 4)
        self.assertEqual(len(pairs_of(book, 4, 4)), 500)

    def test_several_papers_of_one_pair(self):
        book = (("f", ("p",)),), *alike_five_hundred(False)[1:]
        self.idle(book, 4, ["f"])
        self.assertEqual(len(papers(book, FOUR, FOUR_RIGHT)), 500)
        with self.assertRaises(TooMany):
            idle_features(alike_five_hundred(True), 5)
        with self.assertRaises(TooMany):
            idle_features(CATALAN, 6)
        self.idle(CATALAN, 5, [])

    def test_errors(self):
        self.refused(idle_features, [("book", E), ("count", 2)])


if __name__ == "__main__":
    unittest.main()
