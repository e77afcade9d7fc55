import itertools
import unittest

from pairedtongues.errors import BadForm, BadName, BadNumber, BadSide, BadWord
from pairedtongues.forms import bindings_of, forms_of, joined_form, variables_of, word_forms
from pairedtongues.rows import read_book
from tests.cases import Case, bad_numbers, bad_sides
from tests.examples import BARE, E, GREAT, LEANING_TEXT, Nasty
from tests.naive import SIDES, random_book, worths

LEANING = read_book(LEANING_TEXT)
SIDE_OR_NONE = (BadSide, [side for side in bad_sides() if side is not None])

# Values that stand in no ascending order, a sort with two features on one side
# and three on the other, and a rule with three variables of two features.
MIXED = read_book("""\
feature f z a m
feature g q b
marks
sort s set f g / g f g
sort t set /
start t
rule one s C q / B A b
hole s A B / q C B
left x 0
right 0 x
leftmeans none
rightmeans none
rule two s A B / B z q
left word
right word word
leftmeans none
rightmeans none
rule three s m b / b A B
left word
right word
leftmeans none
rightmeans none
rule four s m b / b z b
left other
right word
leftmeans none
rightmeans none
rule five t /
left word
right x
leftmeans none
rightmeans none""")


class Variables(Case):
    def test_of_E(self):
        for number in range(9):
            with self.subTest(number):
                one = ("N",) if number == 1 else ()
                both = one or (("M",) if number in (7, 8) else ())
                self.answers(variables_of, [("book", E), ("number", number), ("side", "left")], one)
                self.answers(variables_of, [("book", E), ("number", number), ("side", "right")], both)
                self.answers(variables_of, [("book", E), ("number", number), ("side", None)], both)

    def test_a_variable_may_be_left_and_right(self):
        self.assertEqual(variables_of(GREAT, 5, "left"), ("A", "B", "C"))
        self.assertEqual(variables_of(GREAT, 5, "right"), ("A", "B"))
        self.assertEqual(variables_of(GREAT, 5, None), ("A", "B", "C"))
        self.assertEqual(variables_of(MIXED, 0, "left"), ("A", "B", "C"))
        self.assertEqual(variables_of(MIXED, 1, "left"), ("A", "B"))
        self.assertEqual(variables_of(MIXED, 1, "right"), ("B",))
        self.assertEqual(variables_of(MIXED, 2, "left"), ())
        self.assertEqual(variables_of(MIXED, 2, "right"), ("A", "B"))

    def test_variables_of_head_and_of_holes(self):
        self.assertEqual(variables_of(LEANING, 0, "left"), ("N",))
        self.assertEqual(variables_of(LEANING, 0, "right"), ("N",))
        self.assertEqual(variables_of(LEANING, 1, None), ())

    def test_errors(self):
        arguments = [("book", E), ("number", 7), ("side", "left")]
        self.refused(variables_of, arguments, number=(BadNumber, bad_numbers()), side=SIDE_OR_NONE)
        with self.assertRaises(BadNumber):
            variables_of(BARE, 1, None)


class Bindings(Case):
    def test_of_E(self):
        both = [("many",), ("one",)]
        for side in ("left", "right", None):
            self.answers(bindings_of, [("book", E), ("number", 1), ("side", side)], both)
            self.answers(bindings_of, [("book", E), ("number", 0), ("side", side)], [()])
        self.answers(bindings_of, [("book", E), ("number", 7), ("side", "left")], [()])
        self.answers(bindings_of, [("book", E), ("number", 7), ("side", "right")], both)
        self.answers(bindings_of, [("book", E), ("number", 7), ("side", None)], both)

    def test_they_ascend_and_the_variables_ascend(self):
        letters, pair = ("a", "m", "z"), ("b", "q")
        self.assertEqual(bindings_of(MIXED, 0, None), list(itertools.product(letters, pair, letters)))
        self.assertEqual(bindings_of(MIXED, 0, "left"), list(itertools.product(letters, pair, letters)))
        self.assertEqual(bindings_of(MIXED, 1, None), list(itertools.product(letters, pair)))
        self.assertEqual(bindings_of(MIXED, 1, "right"), [("b",), ("q",)])
        self.assertEqual(bindings_of(MIXED, 2, "left"), [()])
        self.assertEqual(len(bindings_of(GREAT, 0, None)), 27)
        self.assertEqual(len(bindings_of(GREAT, 0, "right")), 9)

    def test_in_books_made_at_random(self):
        for seed in range(40):
            book = random_book(seed, 3)
            for number in range(len(book[4])):
                for side, sides in (("left", ("left",)), ("right", ("right",)), (None, SIDES)):
                    found = worths(book, number, sides)
                    names = tuple(sorted(found[0]))
                    self.assertEqual(variables_of(book, number, side), names)
                    self.assertEqual(bindings_of(book, number, side), [tuple(worth[name] for name in names) for worth in found])

    def test_errors(self):
        arguments = [("book", E), ("number", 7), ("side", "left")]
        self.refused(bindings_of, arguments, number=(BadNumber, bad_numbers()), side=SIDE_OR_NONE)


def bad_sorts():
    return ["", "number", "cat", "all", "set", "Noun", "left", None, 0, True, ("noun",), ["noun"], b"noun", Nasty()]


class Forms(Case):
    def test_of_E(self):
        both = [("one",), ("many",)]
        for side in SIDES:
            self.answers(forms_of, [("book", E), ("side", side), ("name", "clause")], [()])
            self.answers(forms_of, [("book", E), ("side", side), ("name", "phrase")], both)
            self.answers(forms_of, [("book", E), ("side", side), ("name", "noun")], both)
        self.answers(forms_of, [("book", E), ("side", "left"), ("name", "quality")], [()])
        self.answers(forms_of, [("book", E), ("side", "right"), ("name", "quality")], both)

    def test_the_last_feature_changes_fastest(self):
        self.assertEqual(forms_of(MIXED, "left", "s"), [
            ("z", "q"), ("z", "b"), ("a", "q"), ("a", "b"), ("m", "q"), ("m", "b"),
        ])
        self.assertEqual(forms_of(MIXED, "right", "s"), list(itertools.product(("q", "b"), ("z", "a", "m"), ("q", "b"))))
        self.assertEqual(forms_of(MIXED, "right", "t"), [()])
        self.assertEqual(len(forms_of(GREAT, "left", "top")), 27)

    def test_errors(self):
        self.refused(forms_of, [("book", E), ("side", "left"), ("name", "noun")], name=(BadName, bad_sorts()))


class Joined(Case):
    def joins(self, form, other, expected, book=MIXED, side="left", name="s"):
        arguments = [("book", book), ("side", side), ("name", name)]
        self.answers(joined_form, arguments + [("form", form), ("other", other)], expected)
        self.answers(joined_form, arguments + [("form", other), ("other", form)], expected)

    def test_what_either_tells(self):
        self.joins((None, None), (None, None), (None, None))
        self.joins(("a", None), (None, None), ("a", None))
        self.joins(("a", None), (None, "b"), ("a", "b"))
        self.joins(("a", "b"), (None, "b"), ("a", "b"))
        self.joins(("a", "b"), ("a", "b"), ("a", "b"))
        self.joins((), (), (), name="t")
        self.joins(("b", None, None), (None, None, "q"), ("b", None, "q"), side="right")
        self.joins(("one",), (None,), ("one",), book=E, name="noun")

    def test_unlike_values(self):
        self.joins(("a", None), ("m", None), None)
        self.joins(("a", "b"), ("a", "q"), None)
        self.joins((None, "b"), ("a", "q"), None)
        self.joins(("one",), ("many",), None, book=E, name="noun")

    def test_errors(self):
        forms = [(), ("a",), ("a", "b", None), ["a", "b"], ("b", "a"), ("f", "b"), ("A", None), ("", None), (0, None), (True, None),
                 (("a",), None), None, "ab", Nasty(), (Nasty(), None), (None, ["b"]), (b"a", "b")]
        arguments = [("book", MIXED), ("side", "left"), ("name", "s"), ("form", ("a", "b")), ("other", ("a", "q"))]
        names = bad_sorts() + ["f", "u"]
        self.refused(joined_form, arguments, name=(BadName, names), form=(BadForm, forms), other=(BadForm, forms))
        with self.assertRaises(BadForm):
            joined_form(MIXED, "right", "s", (None, None), (None, None, None))


class WordForms(Case):
    def word(self, book, side, word, expected):
        self.answers(word_forms, [("book", book), ("side", side), ("word", word)], expected)

    def test_of_E(self):
        self.word(E, "left", "cat", [("noun", ("one",))])
        self.word(E, "left", "cats", [("noun", ("many",))])
        self.word(E, "left", "black", [("quality", ())])
        self.word(E, "right", "miro", [("noun", ("many",))])
        self.word(E, "right", "seni", [("quality", ("many",))])

    def test_words_beside_holes_or_not_in_the_book(self):
        for word in ("every", "is", "mir", "word", "abcdefghijkl", "a0"):
            self.word(E, "left", word, [])
        self.word(E, "right", "olu", [])

    def test_all_bindings_without_duplicates(self):
        self.word(MIXED, "left", "word", sorted(
            [("s", form) for form in itertools.product("zam", "qb")] + [("t", ())]
        ))
        self.word(MIXED, "left", "other", [("s", ("m", "b"))])
        self.word(MIXED, "right", "x", [("t", ())])

    def test_a_word_twice_is_not_the_word_alone(self):
        self.word(MIXED, "right", "word", [("s", ("b", value, other)) for value in "amz" for other in "bq"])

    def test_the_other_side_may_have_more_words(self):
        self.assertIn(("s", ("z", "b")), word_forms(MIXED, "left", "word"))

    def test_errors(self):
        words = ["", "A", "0", "a b", "abcdefghijklm", None, 0, True, ("cat",), ["cat"], b"cat", Nasty(), "cat\n"]
        self.refused(word_forms, [("book", E), ("side", "left"), ("word", "cat")], word=(BadWord, words))


if __name__ == "__main__":
    unittest.main()
