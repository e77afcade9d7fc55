import itertools
import unittest

from pairedtongues.books import turned
from pairedtongues.errors import BadBook, BadKind, TooMany
from pairedtongues.leading import count_led_papers, led
from pairedtongues.pairs import texts_of
from pairedtongues.readings import count_readings, readings
from pairedtongues.rounds import alike_texts, back, comes_alone, led_through, lost, rounds
from tests.cases import (
    CATALAN, FOUR, FOUR_RIGHT, Case, alike_five_hundred, bad_books, five_hundred, left_variables, plain_book, plain_rule,
)
from tests.examples import BARE, BLACK, CAT, E
from tests.naive import SIDES, Naive, random_book
from tests.said import NONE, YES, first_apart, telling_book, told, truthful, with_meanings

OTHER = {"left": "right", "right": "left"}
EVERY = ("every", "cat", "is", "black")
EVERY_RIGHT = ("seni", "miro", "olu")
CCCC = ("c",) * 4
NO = ("is", ("some", NONE), NONE)
CATS, MORE, SOME = ("is", ("some", CAT), CAT), ("is", ("more", CAT), CAT), ("is", ("some", CAT), BLACK)


def shortest(texts):
    return sorted(set(texts), key=lambda text: (len(text), text))


def words_book(*pairs):
    """A book whose pairs are these, each two strs of words parted by blanks, each with one paper: the rules r0, r1 .."""
    rows = [(left.split(), right.split()) for left, right in pairs]
    return plain_book(*[plain_rule(f"r{at}", "s", "", left, right) for at, (left, right) in enumerate(rows)])


def spread_five_hundred(further):
    """A book in which the right text (b, b, b, b) has five hundred papers, and one more if it is further; one of them with
    the left text (c, c, c, c), which has no other."""
    book = alike_five_hundred(further)
    rules = tuple(rule if rule[2] or rule[0][-1] != "0" else rule[:3] + (("c",),) + rule[4:] for rule in book[4])
    return book[:4] + (rules,)


# a is led to x and y, b to y, c to y and z; d to z alone, e and f to w.
WEB = words_book(("a", "x"), ("a", "y"), ("b", "y"), ("c", "y"), ("c", "z z"), ("d", "z z"), ("e", "w"), ("f f", "w"))


def text(words):
    return tuple(words.split())


def texts(*rows):
    return [text(row) for row in rows]


class Back(Case):
    def backs(self, book, side, given, expected):
        arguments = [("book", book), ("side", side), ("text", given)]
        self.answers(back, arguments, expected)
        self.answers(comes_alone, arguments, expected == [given])

    def test_of_E(self):
        for given in ([EVERY, ("some", "cat", "is", "black"), ("some", "cats", "are", "black")]):
            self.backs(E, "left", given, [given])
        self.backs(E, "right", EVERY_RIGHT, [EVERY_RIGHT])
        for given in (("cat",), ("zz",), ("every", "cats", "are", "black"), EVERY_RIGHT):
            self.backs(E, "left", given, [])

    def test_one_and_many(self):
        for given, expected in [("a", "a b c"), ("b", "a b c"), ("c", "a b c d"), ("d", "c d")]:
            self.backs(WEB, "left", (given,), [(word,) for word in expected.split()])
        self.backs(WEB, "left", ("e",), texts("e", "f f"))
        self.backs(WEB, "left", ("f", "f"), texts("e", "f f"))
        self.backs(WEB, "right", ("x",), texts("x", "y"))
        self.backs(WEB, "right", ("y",), texts("x", "y", "z z"))
        self.backs(WEB, "right", ("w",), texts("w"))
        self.backs(BARE, "left", ("a",), [("a",)])

    def test_the_only_text_is_another_one_never(self):
        # Whatever a text is led to leads back to it, so that it is among them if there are any.
        for book, side in itertools.product((WEB, turned(WEB)), SIDES):
            for given in texts_of(book, side, 8):
                self.assertIn(given, back(book, side, given))

    def test_papers_of_the_text(self):
        self.backs(five_hundred(False), "left", FOUR, [FOUR])
        self.backs(alike_five_hundred(False), "left", FOUR, [FOUR])
        for book in (five_hundred(True), alike_five_hundred(True), CATALAN):
            for function in (back, comes_alone):
                with self.assertRaises(TooMany):
                    function(book, "left", FOUR if book != CATALAN else ("a",) * 8)

    def test_papers_of_one_that_it_is_led_to(self):
        book = spread_five_hundred(False)
        self.assertEqual(count_led_papers(book, "left", CCCC), 1)
        self.assertEqual(count_led_papers(book, "right", FOUR_RIGHT), 500)
        self.backs(book, "left", CCCC, [tuple(row) for row in itertools.product("ac", repeat=4)])
        further = spread_five_hundred(True)
        self.assertEqual(count_led_papers(further, "left", CCCC), 1)
        for given, function, side in itertools.product((CCCC, ("c", "a", "c", "c")), (back, comes_alone), SIDES):
            with self.assertRaises(TooMany):
                function(further if side == "left" else turned(further), side, given)

    def test_in_books_made_at_random(self):
        seen = {0: 0, 1: 0, 2: 0}
        for seed in range(2000, 2060):
            book = random_book(seed, 3)
            if not Naive(book).few(4, 60):
                continue
            for side in SIDES:
                for given in texts_of(book, side, 4)[:15]:
                    targets = led(book, side, given)
                    expected = shortest([back_to for target in targets for back_to in led(book, OTHER[side], target)])
                    self.backs(book, side, given, expected)
                    seen[min(len(expected), 2)] += 1
        self.assertGreater(min(seen.values()), 20)

    def test_errors(self):
        for function in (back, comes_alone, rounds):
            self.refused(function, [("book", E), ("side", "left"), ("text", EVERY)])


class Rounds(Case):
    def goes(self, book, side, given, first, second):
        self.answers(rounds, [("book", book), ("side", side), ("text", given)], (first, second))
        found = rounds(book, side, given)
        for at, row in enumerate(found):
            row.append("more")
            self.assertEqual(rounds(book, side, given), (first, second), at)

    def test_of_E(self):
        self.goes(E, "left", EVERY, [EVERY], [EVERY_RIGHT])
        self.goes(E, "right", EVERY_RIGHT, [EVERY_RIGHT], [EVERY])

    def test_a_text_that_is_led_to_none(self):
        for given in (("zz",), ("cat",), ("every", "cats", "are", "black"), ("zz",) * 8):
            self.goes(E, "left", given, [given], [])
            self.goes(E, "right", given, [given], [])

    def test_several_steps(self):
        for given in "abcd":
            self.goes(WEB, "left", (given,), texts("a", "b", "c", "d"), texts("x", "y", "z z"))
        for given in ("x", "y", "z z"):
            self.goes(WEB, "right", text(given), texts("x", "y", "z z"), texts("a", "b", "c", "d"))
        self.goes(WEB, "left", ("f", "f"), texts("e", "f f"), texts("w"))

    def test_a_long_way(self):
        # t0 and u0, u0 and t1, t1 and u1 .., so that each step brings one text; the last ones are the shortest.
        lefts = [f"t{at}" + " t" * (5 - at // 2) for at in range(12)]
        rights = [f"u{at}" for at in range(12)]
        pairs = [(lefts[at], rights[at]) for at in range(12)] + [(lefts[at + 1], rights[at]) for at in range(11)]
        book = words_book(*pairs)
        for at in (0, 5, 11):
            self.goes(book, "left", text(lefts[at]), shortest(texts(*lefts)), shortest(texts(*rights)))
            self.goes(book, "right", text(rights[at]), shortest(texts(*rights)), shortest(texts(*lefts)))

    def test_the_same_words_on_both_sides(self):
        book = words_book(("a", "b"), ("b", "a"), ("b", "b"))
        self.goes(book, "left", ("a",), texts("a", "b"), texts("a", "b"))
        self.goes(words_book(("a", "b"), ("b", "a")), "left", ("a",), texts("a"), texts("b"))

    def test_five_hundred_texts(self):
        # Four hundred and eighty texts on the right by the first rule, sixteen by the second one, three more; one on the left.
        rules = [plain_rule("top", "s", "wxyz", (0, 1, 2, 3), (3, 2, 1, 0)), plain_rule("low", "s", "wx", ("a", "a", 0, 1), ("q", 0, 1))]
        for sort, many in zip("wxyz", (4, 4, 5, 6)):
            rules.extend([plain_rule(f"{sort}{at}", sort, "", ("a",), (f"{sort}{at}",)) for at in range(many)])
        rules.extend([plain_rule(f"more{at}", "s", "", FOUR, (f"more{at}",)) for at in range(3)])
        book = plain_book(*rules, sorts="swxyz")
        expected = led(book, "left", FOUR)
        self.assertEqual(len(expected), 499)
        self.goes(book, "left", FOUR, [FOUR], expected)
        self.goes(book, "right", ("more2",), expected, [FOUR])

    def test_five_hundred_and_one_texts(self):
        book = five_hundred(False)
        self.assertEqual(count_led_papers(book, "left", FOUR), 500)
        for side, given in (("left", FOUR), ("right", ("z0", "x0", "w0", "y0"))):
            with self.assertRaises(TooMany):
                rounds(book, side, given)
        self.goes(book, "right", ("z0", "x0"), [("z0", "x0")], [])

    def test_five_hundred_and_one_papers(self):
        self.goes(alike_five_hundred(False), "left", FOUR, [FOUR], [FOUR_RIGHT])
        self.goes(spread_five_hundred(False), "left", CCCC, [tuple(row) for row in itertools.product("ac", repeat=4)], [FOUR_RIGHT])
        for book in (alike_five_hundred(True), spread_five_hundred(True)):
            for side, given in (("left", FOUR), ("right", FOUR_RIGHT)):
                with self.assertRaises(TooMany):
                    rounds(book, side, given)
        with self.assertRaises(TooMany):
            rounds(spread_five_hundred(True), "left", CCCC)
        self.goes(spread_five_hundred(True), "left", FOUR_RIGHT, [FOUR_RIGHT], [])

    def test_in_books_made_at_random(self):
        seen = 0
        for seed in range(2100, 2160):
            book = random_book(seed, 3)
            if not Naive(book).few(4, 40):
                continue
            for side in SIDES:
                for given in texts_of(book, side, 3)[:6]:
                    sets = {side: {given}, OTHER[side]: set()}
                    try:
                        expected = grown(book, sets, side)
                    except TooMany:
                        with self.assertRaises(TooMany):
                            rounds(book, side, given)
                        continue
                    self.goes(book, side, given, *expected)
                    seen += len(expected[0]) > 1
        self.assertGreater(seen, 20)


def grown(book, sets, side):
    """The two sets, grown until nothing comes in any more."""
    while True:
        further = {OTHER[here]: {target for given in sets[here] for target in led(book, here, given)} for here in SIDES}
        if all(further[here] <= sets[here] for here in SIDES):
            return (shortest(sets[side]), shortest(sets[OTHER[side]]))
        sets = {here: sets[here] | further[here] for here in SIDES}
        if sum(len(found) for found in sets.values()) > 500:
            raise TooMany("more than five hundred texts")


class AlikeTexts(Case):
    def alike(self, book, side, count, expected):
        self.answers(alike_texts, [("book", book), ("side", side), ("count", count)], expected)
        for row in alike_texts(book, side, count):
            row.append("more")
        self.assertEqual(alike_texts(book, side, count), expected)

    def test_of_E(self):
        self.alike(E, "left", 3, [])
        for count in (4, 8):
            self.alike(E, "left", count, [[EVERY], [("some", "cat", "is", "black")], [("some", "cats", "are", "black")]])
        self.alike(E, "right", 3, [[("sen", "un", "mir")], [("seni", "miro", "olu")], [("seni", "un", "miro")]])
        self.alike(E, "right", 2, [])

    def test_texts_that_are_led_to_the_same(self):
        book = words_book(("b b", "x"), ("b b", "y"), ("c", "y"), ("c", "x"), ("a", "x"), ("d", "z"), ("e", "z"), ("f f f", "x"))
        self.alike(book, "left", 8, [texts("a", "f f f"), texts("c", "b b"), texts("d", "e")])
        self.alike(book, "left", 2, [texts("a"), texts("c", "b b"), texts("d", "e")])
        self.alike(book, "left", 1, [texts("a"), texts("c"), texts("d", "e")])
        self.alike(book, "right", 8, [texts("x"), texts("y"), texts("z")])
        self.alike(WEB, "left", 8, [texts("a"), texts("b"), texts("c"), texts("d"), texts("e", "f f")])

    def test_texts_that_are_led_to_none(self):
        # Without the rule for many quality words nothing agrees with `olu`: the first text is left out.
        book = E[:4] + (E[4][:6] + E[4][7:],)
        self.assertEqual((count_readings(book, "left", EVERY), led(book, "left", EVERY)), (2, []))
        self.alike(book, "left", 8, [[("some", "cat", "is", "black")]])

    def test_the_texts_they_are_led_to_may_be_longer(self):
        book = words_book(("a", "x x x x"), ("b", "x x x x"), ("c", "y"))
        self.alike(book, "left", 1, [texts("a", "b"), texts("c")])

    def test_bounds(self):
        book = five_hundred(False)
        self.alike(book, "left", 4, [[FOUR]])
        self.alike(book, "right", 4, [texts_of(book, "right", 4)])
        self.alike(five_hundred(True), "left", 3, [])
        for side in SIDES:
            for function in (alike_texts, lost):
                with self.assertRaises(TooMany):
                    function(truthful(five_hundred(True)), side, 4)

    def test_too_many_papers_of_one_text(self):
        # One reading on the right, and 27 * 18 papers, or 8 * 8 * 8; the text (x, x) is a pair of its own.
        for nodes, fine in ((("fff", "ffg"), True), (("ggg", "ggg", "ggg"), False)):
            book = left_variables(*[tuple(node) for node in nodes])
            further = plain_rule("xx", "s", "", ("c", "c"), ("x", "x"))
            book = truthful(book[:4] + (book[4] + (further,),))
            given = ("y", "x") * len(nodes) + ("z",)
            self.assertEqual(count_readings(book, "right", given), 1)
            self.alike(book, "right", len(given) - 1, [[("x", "x")]])
            if fine:
                self.alike(book, "right", 8, [[("x", "x")], [given]])
                self.assertIsNone(lost(book, "right", 8))
            else:
                for function in (alike_texts, lost):
                    with self.assertRaises(TooMany):
                        function(book, "right", len(given))

    def test_too_many_papers_by_few_readings(self):
        # Each text of the left has few readings, the one of the right has five hundred papers and one.
        book = spread_five_hundred(True)
        with self.assertRaises(TooMany):
            alike_texts(book, "right", 4)
        self.alike(book, "right", 3, [])

    def test_in_books_made_at_random(self):
        seen = {1: 0, 2: 0}
        for seed in range(2200, 2260):
            book = random_book(seed, 3)
            if not Naive(book).few(4, 60):
                continue
            for side, count in itertools.product(SIDES, (2, 4)):
                led_by = {given: led(book, side, given) for given in texts_of(book, side, count)}
                expected = []
                for given in led_by:
                    fellows = [other for other in led_by if led_by[other] == led_by[given]]
                    if led_by[given] and fellows[0] == given:
                        expected.append(fellows)
                        seen[min(len(fellows), 2)] += 1
                self.alike(book, side, count, expected)
        self.assertGreater(min(seen.values()), 20)

    def test_errors(self):
        self.refused(alike_texts, [("book", E), ("side", "left"), ("count", 2)])


ZERO = (0, 0, 0, 0)


class Lost(Case):
    def loses(self, book, side, count, expected):
        self.answers(lost, [("book", book), ("side", side), ("count", count)], expected)

    def test_of_E(self):
        for side, count in itertools.product(SIDES, (1, 4, 8)):
            self.loses(E, side, count, None)

    def test_two_texts_of_E(self):
        # With `un` for `every`, too, but the number as before.
        rules = (("all", ("phrase", ("one",), ("one",)), (("noun", ("one",), ("one",)),), ("every", 0), ("un", 0), ("all", ("hole", 0)),
                  ("all", ("hole", 0))),) + E[4][1:]
        book = E[:4] + (rules,)
        self.loses(book, "left", 8, (EVERY, ("some", "cat", "is", "black"), ("sen", "un", "mir"), ZERO))
        self.loses(book, "left", 3, None)
        self.loses(book, "right", 8, None)

    def test_none(self):
        self.loses(with_meanings(WEB), "left", 8, None)
        # What is not led to one text may mean what it will.
        self.loses(with_meanings(words_book(("a", "x"), ("b", "y")), r0=(YES, YES), r1=(NO, NO)), "left", 8, None)
        # Of one text alone nothing is lost.
        self.loses(with_meanings(words_book(("a", "x"), ("a", "x")), r0=(YES, YES), r1=(NO, NO)), "left", 8, None)
        # Only the meanings of the side itself count.
        book = with_meanings(words_book(("a", "x"), ("b", "x")), r0=(YES, YES), r1=(YES, NO))
        self.loses(book, "left", 8, None)
        self.loses(turned(book), "right", 8, None)
        self.loses(turned(book), "left", 8, None)

    def test_terms_that_are_written_in_another_way(self):
        book = words_book(("a", "x"), ("b", "x"))
        self.loses(with_meanings(book, r0=(SOME, NO), r1=(("is", ("some", BLACK), CAT), YES)), "left", 8, None)
        self.loses(with_meanings(book, r0=(SOME, NO), r1=(CATS, NO)), "left", 8, (("a",), ("b",), ("x",), (0, 0, 1, 0)))

    def test_readings_whatever_they_are_led_to(self):
        # The second reading of a is led to y alone, but it is a reading of a.
        book = with_meanings(words_book(("a", "x"), ("a", "y"), ("b", "x")), r1=(SOME, SOME))
        self.loses(book, "left", 8, (("a",), ("b",), ("x",), ZERO))
        book = with_meanings(words_book(("a", "x"), ("b", "y"), ("b", "x")), r1=(SOME, SOME))
        self.loses(book, "left", 8, (("a",), ("b",), ("x",), ZERO))
        # A reading that is led to nothing: its one hole has no word on the right that agrees.
        features = (("f", ("p", "q")),)
        sorts = (("s", "truth", (), ()), ("t", "set", (), ("f",)))
        none = NONE
        rules = (("a", ("s", (), ()), (), ("a", "b"), ("x",), YES, YES), ("b", ("s", (), ()), (), ("c",), ("x",), YES, YES),
                 ("top", ("s", (), ()), (("t", (), ("p",)),), (0, "b"), (0, "y"), NO, NO), ("w", ("t", (), ("q",)), (), ("a",), ("a",), none, none))
        book = (features, E[1], sorts, "s", rules)
        self.assertEqual([count_readings(book, "left", ("a", "b")), led(book, "left", ("a", "b"))], [2, [("x",)]])
        self.loses(book, "left", 8, (("c",), ("a", "b"), ("x",), ZERO))
        self.loses(book, "left", 1, None)

    def test_the_first_two_texts(self):
        pairs = [("a", "x"), ("b", "y"), ("c", "y"), ("d", "x"), ("a a", "x")]
        self.loses(with_meanings(words_book(*pairs), r1=(SOME, SOME), r3=(NO, NO), r4=(SOME, NO)), "left", 8, (("a",), ("d",), ("x",), ZERO))
        self.loses(with_meanings(words_book(*pairs), r1=(SOME, SOME), r4=(NO, NO)), "left", 8, (("a",), ("a", "a"), ("x",), ZERO))
        self.loses(with_meanings(words_book(*pairs), r1=(SOME, SOME), r4=(NO, NO)), "left", 1, (("b",), ("c",), ("y",), ZERO))
        self.loses(with_meanings(words_book(*pairs), r2=(SOME, SOME)), "left", 1, (("b",), ("c",), ("y",), ZERO))
        self.loses(with_meanings(words_book(*pairs), r3=(MORE, NO)), "left", 2, (("a",), ("d",), ("x",), ZERO))
        self.loses(with_meanings(words_book(*pairs), r0=(SOME, NO), r3=(MORE, NO), r4=(SOME, NO)), "left", 2,
                   (("a",), ("d",), ("x",), (0, 0, 0, 1)))

    def test_the_first_text_to_which_both_are_led(self):
        book = words_book(("a", "v v"), ("a", "z"), ("a", "a"), ("b", "v v"), ("b", "z"), ("b", "y"))
        meanings = {f"r{at}": (SOME, SOME) for at in range(3, 6)}
        self.loses(with_meanings(book, **meanings), "left", 8, (("a",), ("b",), ("z",), ZERO))
        self.loses(with_meanings(book, **meanings), "right", 8, (("a",), ("z",), ("a",), ZERO))

    def test_the_least_world(self):
        book = words_book(("a", "x"), ("a", "x"), ("b", "x"), ("b", "x"))
        self.loses(with_meanings(book, r0=(SOME, NO), r1=(CATS, NO), r2=(SOME, NO), r3=(SOME, NO)), "left", 8,
                   (("a",), ("b",), ("x",), (0, 0, 1, 0)))
        self.loses(with_meanings(book, r0=(SOME, NO), r1=(MORE, NO), r2=(SOME, NO), r3=(SOME, NO)), "left", 8,
                   (("a",), ("b",), ("x",), (0, 0, 0, 1)))
        self.loses(with_meanings(book, r0=(SOME, NO), r1=(SOME, NO), r2=(MORE, NO), r3=(CATS, NO)), "left", 8,
                   (("a",), ("b",), ("x",), (0, 0, 0, 1)))
        # The two of a part from one another, the first one from the first of b: each alone is true in other worlds.
        self.loses(with_meanings(book, r0=(SOME, NO), r1=(CATS, NO), r2=(SOME, NO), r3=(CATS, NO)), "left", 8,
                   (("a",), ("b",), ("x",), (0, 0, 1, 0)))

    def test_bounds(self):
        # All of the five hundred texts are led to one; the last one alone says something else.
        book = turned(five_hundred(False))
        self.loses(truthful(book), "left", 8, None)
        rules = tuple(rule[:5] + ((("hole", 0), YES) if rule[0] == "top" else (NO, NO) if rule[0] == "w4" else (YES, YES))
                      for rule in truthful(book)[4])
        book = (book[0], E[1], truthful(book)[2], "s", rules)
        # Hole 0 stands in the third place there.
        self.loses(book, "left", 8, (("z0", "x0", "w0", "y0"), ("z0", "x0", "w4", "y0"), FOUR, ZERO))
        with self.assertRaises(TooMany):
            lost(truthful(alike_five_hundred(True)), "left", 4)
        self.loses(truthful(alike_five_hundred(True)), "left", 3, None)

    def test_too_many_papers_of_one_text(self):
        # a and b are lost on one another, but the last text has too many papers, though few readings.
        book = left_variables(*[tuple("ggg")] * 3)
        further = (plain_rule("r0", "s", "", ("c",), ("a",)), plain_rule("r1", "s", "", ("c",), ("b",)))
        book = with_meanings(book[:4] + (book[4] + further,), r1=(YES, NO))
        self.loses(book, "right", 6, (("a",), ("b",), ("c",), ZERO))
        with self.assertRaises(TooMany):
            lost(book, "right", 7)

    def test_in_books_made_at_random(self):
        seen = {True: 0, False: 0}
        for seed in range(2300, 2420):
            book = telling_book(seed)
            if not Naive(book).few(3, 40):
                continue
            for side in SIDES:
                expected = plainly_lost(book, side, 3)
                self.loses(book, side, 3, expected)
                seen[expected is None] += 1
        self.assertGreater(min(seen.values()), 15)

    def test_errors(self):
        self.refused(lost, [("book", E), ("side", "left"), ("count", 2)])
        for side, count in (("left", 2), ("x", 2), ("left", 0)):
            for book in (E[:3] + ("noun",) + E[4:], E[:3] + ("phrase",) + E[4:], five_hundred(True)):
                with self.assertRaises(BadKind):
                    lost(book, side, count)


def plainly_lost(book, side, count):
    """The words of the point, one by one."""
    found = texts_of(book, side, count)
    terms = {given: [told(book, side, tree) for tree in readings(book, side, given)] for given in found}
    targets = {given: led(book, side, given) for given in found}
    for first, second in itertools.combinations(found, 2):
        shared = [target for target in targets[first] if target in targets[second]]
        worlds = [first_apart(book[1], one, other) for one in terms[first] for other in terms[second]] if shared else []
        worlds = [world for world in worlds if world is not None]
        if worlds:
            return (first, second, shared[0], min(worlds, key=lambda world: (sum(world), world)))
    return None


class LedThrough(Case):
    def leads(self, book, other, side, given, expected):
        self.answers(led_through, [("book", book), ("other", other), ("side", side), ("text", given)], expected)

    def test_two_books(self):
        second = words_book(("x", "p"), ("x", "q q"), ("y", "p"), ("z z", "a"), ("c", "c"))
        self.leads(WEB, second, "left", ("a",), texts("p", "q q"))
        self.leads(WEB, second, "left", ("b",), texts("p"))
        self.leads(WEB, second, "left", ("c",), texts("a", "p"))
        self.leads(WEB, second, "left", ("d",), texts("a"))
        self.leads(WEB, second, "left", ("zz",), [])
        self.leads(second, WEB, "right", ("a",), texts("c", "d"))
        self.leads(second, WEB, "right", ("p",), texts("a", "b", "c"))
        self.leads(second, WEB, "right", ("c",), [])
        self.leads(second, words_book(("k", "z z"), ("k k", "z z"), ("i", "y")), "right", ("a",), texts("k", "k k"))
        self.leads(second, words_book(("k", "z z"), ("k k", "z z"), ("i", "y")), "right", ("p",), texts("i"))

    def test_the_side_is_that_of_the_second_book_too(self):
        book = words_book(("a", "b"), ("b", "c"))
        self.leads(book, book, "left", ("a",), texts("c"))
        self.leads(book, book, "left", ("b",), [])
        self.leads(book, book, "right", ("c",), texts("a"))

    def test_the_second_book_does_not_know_the_words_between(self):
        self.leads(E, E, "left", EVERY, [])
        self.leads(E, BARE, "left", EVERY, [])
        self.leads(BARE, E, "left", ("a",), [])
        self.leads(BARE, BARE, "left", ("a",), [("a",)])
        self.leads(E, turned(E), "left", EVERY, [EVERY])
        self.leads(turned(E), E, "left", EVERY_RIGHT, [EVERY_RIGHT])

    def test_books_of_other_features(self):
        self.leads(E, words_book(("seni miro olu", "yes")), "left", EVERY, [("yes",)])

    def test_five_hundred_papers(self):
        echo = turned(five_hundred(False))
        self.leads(five_hundred(False), echo, "left", FOUR, [FOUR])
        self.leads(echo, alike_five_hundred(False), "left", ("z0", "x0", "w0", "y0"), [FOUR_RIGHT])
        with self.assertRaises(TooMany):
            led_through(five_hundred(True), BARE, "left", FOUR)
        with self.assertRaises(TooMany):
            led_through(echo, alike_five_hundred(True), "left", ("z0", "x0", "w0", "y0"))
        self.leads(BARE, alike_five_hundred(True), "left", ("a",), [])

    def test_in_books_made_at_random(self):
        seen = 0
        for seed in range(2500, 2560):
            # The words of the right side of the first are those of the left side of the second.
            book, other = random_book(seed, 3), turned(random_book(seed + 7, 3))
            if not is_fine(book) or not is_fine(other):
                continue
            for given in texts_of(book, "left", 4)[:20]:
                expected = shortest([target for between in led(book, "left", given) for target in led(other, "left", between)])
                self.leads(book, other, "left", given, expected)
                seen += len(expected) > 0
        self.assertGreater(seen, 5)

    def test_errors(self):
        arguments = [("book", E), ("other", BARE), ("side", "left"), ("text", EVERY)]
        self.refused(led_through, arguments, other=(BadBook, bad_books()))


def is_fine(book):
    """Whether it is a book of few readings."""
    return Naive(book).few(4, 40)


if __name__ == "__main__":
    unittest.main()
