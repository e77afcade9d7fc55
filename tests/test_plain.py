import unittest

from pairedtongues.plain import are_names, is_integer, is_name, is_side, is_text, is_tuple, is_variable, is_word
from tests.examples import strange_things

SMALL = "abcdefghijklmnopqrstuvwxyz"


class Names(unittest.TestCase):
    def test_names_and_words(self):
        for good in list(SMALL) + ["a0", "z9", "a0123456789z", SMALL[:12], SMALL[14:], "none", "hole", "left"]:
            with self.subTest(good):
                self.assertIs(is_name(good), True)
                self.assertIs(is_word(good), True)

    def test_what_is_no_name_and_no_word(self):
        for bad in ["A", "Cat", "cAt", "0", "9a", "a b", "a_b", "a-b", "a\n", " a", "a.", "abcdefghijklm", "a" * 1000,
                    "{", "`", "a{", "a`", "a:", "a/"] + strange_things():
            with self.subTest(repr(bad)):
                self.assertIs(is_name(bad), False)
                self.assertIs(is_word(bad), False)

    def test_names_in_a_tuple(self):
        self.assertTrue(are_names((), 0, 2))
        self.assertTrue(are_names(("a", "b"), 0, 2))
        self.assertFalse(are_names(("a", "b", "c"), 0, 2))
        self.assertFalse(are_names((), 1, 2))
        self.assertFalse(are_names(("a", "a"), 0, 2))
        self.assertFalse(are_names(["a"], 0, 2))
        self.assertFalse(are_names("ab", 0, 2))


class Variables(unittest.TestCase):
    def test_variables(self):
        for good in SMALL.upper():
            self.assertIs(is_variable(good), True)

    def test_what_is_no_variable(self):
        for bad in ["a", "AB", "A1", "", "[", "@", "\u00c4", "ABC"] + strange_things():
            with self.subTest(repr(bad)):
                self.assertIs(is_variable(bad), False)


class Sides(unittest.TestCase):
    def test_sides(self):
        self.assertIs(is_side("left"), True)
        self.assertIs(is_side("right"), True)

    def test_what_is_no_side(self):
        for bad in ["Left", "lefts", "l", "", "leftright", ("left",), ["left"], b"left", 0, 1] + strange_things():
            with self.subTest(repr(bad)):
                self.assertIs(is_side(bad), False)


class Texts(unittest.TestCase):
    def test_texts(self):
        for good in [("a",), ("every", "cat", "is", "black"), ("a",) * 8]:
            self.assertIs(is_text(good), True)

    def test_what_is_no_text(self):
        for bad in [(), ("a",) * 9, ["a"], "a", ("a", "B"), ("a", ""), ("a", None), ("a", 0), (("a",),), ("a b",)]:
            with self.subTest(repr(bad)):
                self.assertIs(is_text(bad), False)
        for bad in strange_things():
            with self.subTest(repr(bad)):
                self.assertIs(is_text(bad), False)


class Integers(unittest.TestCase):
    def test_no_bool_is_an_integer(self):
        self.assertTrue(is_integer(0) and is_integer(1) and is_integer(-5) and is_integer(10 ** 59))
        for bad in [True, False, "1", b"1", None, (1,), [1]]:
            self.assertIs(is_integer(bad), False)

    def test_no_list_is_a_tuple(self):
        self.assertIs(is_tuple((), 0, 1), True)
        self.assertIs(is_tuple((1,), 0, 1), True)
        self.assertIs(is_tuple((1, 2), 0, 1), False)
        self.assertIs(is_tuple((), 1, 1), False)
        self.assertIs(is_tuple([], 0, 1), False)


if __name__ == "__main__":
    unittest.main()
