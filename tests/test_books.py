import unittest

from pairedtongues.books import is_book, turned, widest, words_of
from pairedtongues.errors import BadBook, BadSide
from pairedtongues.rows import read_book, write_book
from tests.examples import (
    BARE, CAT, E, E_TEXT, GREAT, GREAT_MEANING, H0, H1, LEANING_TEXT, LEANING_TURNED_TEXT, MANY, ONE, all_paths,
    entry_at, exchanged, great_rule, strange_things,
)

FEATURES, MARKS, SORTS, START, RULES = range(5)
NAME, HEAD, HOLES, LEFT, RIGHT, LEFT_MEANING, RIGHT_MEANING = range(7)


class BookCase(unittest.TestCase):
    def good(self, thing):
        self.assertIs(is_book(thing), True)

    def bad(self, thing):
        self.assertIs(is_book(thing), False)

    def bad_with(self, book, *changes):
        """The book with each of these (path, entry), alone, is none."""
        for path, entry in changes:
            with self.subTest(path=path, entry=repr(entry)[:80]):
                self.bad(exchanged(book, path, entry))

    def good_with(self, book, *changes):
        for path, entry in changes:
            with self.subTest(path=path, entry=repr(entry)[:80]):
                self.good(exchanged(book, path, entry))


class AnyObject(BookCase):
    def test_books(self):
        for book in (E, BARE, GREAT, read_book(LEANING_TEXT)):
            self.good(book)

    def test_objects_that_are_no_books(self):
        for thing in strange_things() + ["book", E_TEXT, list(E), E[0], (E,), (E, E), E + ((),), E[:4], (1, 2, 3, 4, 5)]:
            with self.subTest(repr(thing)):
                self.bad(thing)

    def test_strange_things_in_every_place(self):
        for book in (BARE, E):
            for path in all_paths(book):
                for thing in strange_things():
                    if thing is True or thing is False or isinstance(thing, int) or isinstance(thing, str):
                        # Some of these may stand in some places; they only have to be answered.
                        self.assertIn(is_book(exchanged(book, path, thing)), (True, False))
                    else:
                        self.bad(exchanged(book, path, thing))

    def test_no_list_in_the_place_of_a_tuple(self):
        for book in (BARE, E, GREAT):
            for path in all_paths(book):
                if isinstance(entry_at(book, path), tuple):
                    self.bad(exchanged(book, path, list(entry_at(book, path))))

    def test_no_bool_in_the_place_of_an_integer(self):
        for book in (E, GREAT):
            numbers = [path for path in all_paths(book) if entry_at(book, path) in (0, 1)]
            self.assertGreater(len(numbers), 20)
            for path in numbers:
                self.bad(exchanged(book, path, bool(entry_at(book, path))))

    def test_no_digit_in_the_place_of_an_integer(self):
        for path in all_paths(E):
            if isinstance(entry_at(E, path), int):
                self.bad_with(E, (path, str(entry_at(E, path))))

    def test_no_bytes_in_the_place_of_a_word(self):
        for path in all_paths(E):
            if isinstance(entry_at(E, path), str):
                self.bad(exchanged(E, path, entry_at(E, path).encode()))

    def test_no_part_is_lacking_and_none_too_many(self):
        fixed = [(), (FEATURES, 0), (SORTS, 0), (RULES, 0), (RULES, 0, HEAD), (RULES, 0, HOLES, 0)]
        fixed += [(RULES, 0, LEFT_MEANING), (RULES, 7, RIGHT_MEANING), (RULES, 7, LEFT_MEANING, 2), (RULES, 2, RIGHT_MEANING)]
        for path in fixed:
            part = entry_at(E, path)
            for at in range(len(part)):
                self.bad_with(E, (path, part[:at] + part[at + 1:]), (path, part[:at] + (part[at],) + part[at:]))
            self.bad_with(E, (path, ()))


class Features(BookCase):
    def test_no_features(self):
        self.good_with(BARE, ((FEATURES,), ()))

    def test_at_most_three(self):
        four = GREAT[FEATURES] + (("f4", ("a",)),)
        self.good_with(BARE, ((FEATURES,), four[:3]))
        self.bad_with(BARE, ((FEATURES,), four))

    def test_one_to_three_values(self):
        self.good_with(BARE, ((FEATURES,), (("f", ("a",)),)), ((FEATURES,), (("f", ("a", "b", "c")),)))
        self.bad_with(BARE, ((FEATURES,), (("f", ()),)), ((FEATURES,), (("f", ("a", "b", "c", "d")),)))

    def test_no_value_twice_in_one_feature(self):
        self.bad_with(BARE, ((FEATURES,), (("f", ("a", "b", "a")),)))
        self.good_with(BARE, ((FEATURES,), (("f", ("a", "b")), ("g", ("b", "a")), ("a", ("a",)))))

    def test_no_two_of_the_same_name(self):
        self.bad_with(BARE, ((FEATURES,), (("f", ("a",)), ("f", ("b",)))))
        self.bad_with(BARE, ((FEATURES,), (("f", ("a",)), ("g", ("a",)), ("f", ("a",)))))

    def test_names(self):
        self.good_with(BARE, ((FEATURES,), (("abcdefghij12", ("zyxwvutsrq98",)),)))
        self.bad_with(BARE, ((FEATURES,), (("abcdefghij123", ("a",)),)), ((FEATURES,), (("a", ("abcdefghij123",)),)))
        self.bad_with(BARE, ((FEATURES,), (("A", ("a",)),)), ((FEATURES,), (("a", ("A",)),)))


class Marks(BookCase):
    def test_at_most_two(self):
        self.good_with(BARE, ((MARKS,), ()), ((MARKS,), ("a",)), ((MARKS,), ("a", "b")))
        self.bad_with(BARE, ((MARKS,), ("a", "b", "c")))

    def test_none_twice(self):
        self.bad_with(BARE, ((MARKS,), ("a", "a")))

    def test_names(self):
        self.good_with(BARE, ((MARKS,), ("abcdefghij12",)))
        self.bad_with(BARE, ((MARKS,), ("abcdefghij123",)), ((MARKS,), ("A",)), ((MARKS,), ("",)), ((MARKS,), (0,)))


class Sorts(BookCase):
    def sorts(self, many):
        return BARE[SORTS] + tuple((f"t{number}", "part", (), ()) for number in range(many - 1))

    def test_one_to_eight(self):
        self.good_with(BARE, ((SORTS,), self.sorts(8)))
        self.bad_with(BARE, ((SORTS,), self.sorts(9)), ((SORTS,), ()))

    def test_no_two_of_the_same_name(self):
        self.bad_with(BARE, ((SORTS,), BARE[SORTS] + BARE[SORTS]))
        self.bad_with(BARE, ((SORTS,), BARE[SORTS] + (("s", "truth", (), ()),)))

    def test_names(self):
        self.good_with(BARE, ((SORTS,), BARE[SORTS] + (("abcdefghij12", "truth", (), ()),)))
        self.bad_with(BARE, ((SORTS,), BARE[SORTS] + (("abcdefghij123", "truth", (), ()),)))

    def test_kinds(self):
        for kind in ("set", "part", "truth"):
            self.good_with(BARE, ((SORTS,), BARE[SORTS] + (("t", kind, (), ()),)))
        for kind in ("sets", "", "Set", "mark", "hole", 0, None, ("set",)):
            self.bad_with(BARE, ((SORTS,), BARE[SORTS] + (("t", kind, (), ()),)))

    def test_at_most_three_features_on_a_side(self):
        book = exchanged(BARE, (FEATURES,), GREAT[FEATURES])
        for left, right in ((("f2", "f2", "f2"), ()), ((), ("f2", "f3", "abcdefghijkl")), (("f3",), ("f3", "f3"))):
            self.good_with(book, ((SORTS,), BARE[SORTS] + (("t", "set", left, right),)))
        for left, right in ((("f2", "f2", "f2", "f2"), ()), ((), ("f2", "f3", "f2", "f3"))):
            self.bad_with(book, ((SORTS,), BARE[SORTS] + (("t", "set", left, right),)))

    def test_only_features_of_the_book(self):
        book = exchanged(BARE, (FEATURES,), GREAT[FEATURES])
        for name in ("f4", "a1", "s", "", "F2", 0, None):
            self.bad_with(book, ((SORTS,), BARE[SORTS] + (("t", "set", (name,), ()),)))
            self.bad_with(book, ((SORTS,), BARE[SORTS] + (("t", "set", (), ("f2", name)),)))


class Start(BookCase):
    def test_a_sort_of_any_kind(self):
        self.good_with(E, *[((START,), name) for name in ("clause", "phrase", "noun", "quality")])

    def test_no_other_name(self):
        self.bad_with(E, *[((START,), name) for name in ("all", "number", "one", "black", "truth", "", "S", 0, None)])


class Rules(BookCase):
    def test_one_to_twenty_four(self):
        rules = GREAT[RULES] + (great_rule("last"),)
        self.good_with(GREAT, ((RULES,), rules[:1]), ((RULES,), rules[:24]))
        self.bad_with(GREAT, ((RULES,), rules), ((RULES,), ()))

    def test_no_two_of_the_same_name(self):
        self.bad_with(E, ((RULES, 0, NAME), "are"), ((RULES, 3, NAME), "cat"), ((RULES,), E[RULES][:1] * 2))

    def test_names(self):
        self.good_with(E, ((RULES, 0, NAME), "abcdefghij12"), ((RULES, 0, NAME), "noun"), ((RULES, 0, NAME), "one"))
        self.bad_with(E, ((RULES, 0, NAME), "abcdefghij123"), ((RULES, 0, NAME), ""), ((RULES, 0, NAME), "N"))

    def test_categories(self):
        for path in ((RULES, 0, HEAD), (RULES, 0, HOLES, 0), (RULES, 7, HOLES, 0)):
            sort = entry_at(E, path)[0]
            self.good_with(E, (path, (sort, MANY, ONE)))
            self.bad_with(
                E, (path, (sort, (), ONE)), (path, (sort, MANY, ())), (path, (sort, MANY, ("one", "one"))),
                (path, (sort, ("one", "one"), MANY)), (path, (sort, ("two",), ONE)), (path, (sort, ONE, ("number",))),
                (path, (sort, (None,), ONE)), (path, (sort, ("MN",), ONE)), (path, (sort, ("",), ONE)),
                (path, ("none", ONE, ONE)), (path, ("number", ONE, ONE)), (path, (0, ONE, ONE)), (path, ("clause", ONE, ONE)),
            )

    def test_a_value_is_one_of_its_own_feature(self):
        self.good_with(GREAT, ((RULES, 0, HEAD), ("top", ("a1", "c2", "b3"), ("a3", "a1", "a3"))))
        self.bad_with(
            GREAT, ((RULES, 0, HEAD), ("top", ("b1", "c2", "b3"), ("a3", "a1", "a3"))),
            ((RULES, 0, HEAD), ("top", ("a1", "c2", "b3"), ("a3", "a3", "a3"))),
        )

    def test_a_variable_for_one_feature(self):
        self.good_with(GREAT, ((RULES, 0, HOLES, 1), ("set1", (), ("A", "B", "A"))))
        self.bad_with(
            GREAT, ((RULES, 0, HOLES, 1), ("set1", (), ("A", "A", "A"))),
            ((RULES, 0, HOLES, 1), ("set1", (), ("B", "B", "A"))), ((RULES, 0, HOLES, 0), ("part1", ("A",), ())),
            ((RULES, 0, HEAD), ("top", ("A", "b2", "B"), ("A", "A", "a3"))),
            ((RULES, 0, HEAD), ("top", ("A", "b2", "A"), ("b3", "b2", "a3"))),
        )

    def test_at_most_three_variables(self):
        self.good_with(GREAT, ((RULES, 0, HOLES, 3), ("part2", ("A",), ("A",))))
        self.bad_with(
            GREAT, ((RULES, 0, HOLES, 3), ("part2", ("A",), ("D",))), ((RULES, 0, HOLES, 3), ("part2", ("D",), ("A",))),
            ((RULES, 0, HEAD), ("top", ("A", "D", "B"), ("B", "A", "a3"))),
        )

    def test_each_rule_has_variables_of_its_own(self):
        other = ("other", ("part1", ("A",), ()), (), ("a",), ("b",), ("no", ("none",)), ("no", ("none",)))
        more = ("more", ("top", ("D", "E", "F"), ("a3", "D", "F")), (), ("a",), ("b",), CLOSED, CLOSED)
        self.good_with(GREAT, ((RULES,), (great_rule("a"), other, more)))

    def test_at_most_four_holes(self):
        hole = ("set2", (), ())
        sides = {4: (0, 1, 2, 3), 5: (0, 1, 2, 3, 4)}
        for many, check in ((4, self.good), (5, self.bad)):
            rule = ("r", ("set2", (), ()), (hole,) * many, sides[many], sides[many], ("none",), ("none",))
            check(exchanged(GREAT, (RULES,), (rule,)))


CLOSED = ("deny", ("is", ("some", ("none",)), ("mark", "b")))


class Sides(BookCase):
    def sides(self, check, side, *many):
        for items in many:
            with self.subTest(side=side, items=items):
                check(exchanged(E, side, items))

    def test_words_alone(self):
        for side in ((RULES, 2, LEFT), (RULES, 2, RIGHT)):
            self.sides(self.good, side, ("a",), ("a", "a"), ("a", "b", "c", "d", "e", "f"), ("abcdefghij12",))
            self.sides(self.bad, side, (), ("a",) * 7, (0,), ("a", 0), ("A",), ("abcdefghij123",), ("0",), ("a", None))

    def test_one_hole(self):
        for side in ((RULES, 0, LEFT), (RULES, 0, RIGHT)):
            self.sides(self.good, side, ("a", 0), (0, "a"), ("a", "b", 0, "c", "d", "e"))
            self.sides(self.bad, side, (0,), (), ("a",), (0, 0), ("a", 0, 0), (1, "a"), (-1, "a"), ("a", 0, 1), (0, None))

    def test_more_holes(self):
        for side in ((RULES, 7, LEFT), (RULES, 7, RIGHT)):
            self.sides(self.good, side, (0, 1), (1, 0), ("a", 1, 0, "a", "b", "c"))
            self.sides(self.bad, side, (0,), (1,), ("a", 0), ("a", 1), (0, 0, 1), (0, 1, 1), (0, 1, 2), (0, 2), (0, 1) + ("a",) * 5)

    def test_the_greatest(self):
        for side in ((RULES, 5, LEFT), (RULES, 5, RIGHT)):
            items = entry_at(GREAT, side)
            self.bad_with(GREAT, (side, items + ("a",)), (side, items + (0,)), (side, (0, 1, 2) + ("a",) * 3))
            self.good_with(GREAT, (side, (0, 1, 2, 3)), (side, (3, "a", 2, 1, 0)))


class Meanings(BookCase):
    """Rules whose head has one of the kinds, with holes of the kinds part, set, set and truth."""

    def book(self, kind, meaning, at=LEFT_MEANING):
        hole_sorts = ("p", "s", "s", "t")
        sorts = (("p", "part", (), ()), ("s", "set", (), ()), ("t", "truth", (), ()))
        head = {"part": "p", "set": "s", "truth": "t"}[kind]
        plain = {"part": ("no", ("none",)), "set": ("none",), "truth": ("deny", ("hole", 3))}[kind]
        rule = ("r", (head, (), ()), tuple((sort, (), ()) for sort in hole_sorts), (0, 1, 2, 3), (3, 2, 1, 0), plain, plain)
        return ((), ("x", "y"), sorts, "t", (exchanged(rule, (at,), meaning),))

    def means(self, check, kind, *meanings):
        for meaning in meanings:
            for at in (LEFT_MEANING, RIGHT_MEANING):
                with self.subTest(kind=kind, meaning=repr(meaning), at=at):
                    check(self.book(kind, meaning, at))

    def test_sets(self):
        part, truth, none, mark = ("all", ("none",)), ("deny", ("hole", 3)), ("none",), ("mark", "x")
        self.means(
            self.good, "set", none, mark, ("mark", "y"), ("hole", 1), ("hole", 2), ("not", mark), ("both", mark, none),
            ("either", ("hole", 2), ("hole", 1)),
        )
        self.means(
            self.bad, "set", part, truth, ("hole", 0), ("hole", 3), ("not", part), ("both", none, part), ("both", part, none),
            ("either", truth, none), ("either", none, ("hole", 0)), ("not",), ("not", none, none), ("both", none),
            ("either", none), ("either", none, none, none), ("both", none, none, none), ("none", none), ("none", "x"),
        )

    def test_marks(self):
        self.means(
            self.bad, "set", ("mark",), ("mark", "z"), ("mark", ""), ("mark", "x", "y"), ("mark", 0), ("mark", ("x",)),
            ("mark", None), ("mark", ("none",)), "mark", ("x",), ("mark x",),
        )
        book = self.book("set", ("mark", "x"))
        self.bad_with(book, ((MARKS,), ()), ((MARKS,), ("y",)))

    def test_parts(self):
        none, truth, part = ("none",), ("deny", ("hole", 3)), ("no", ("none",))
        for word in ("all", "some", "no", "more"):
            self.means(self.good, "part", (word, none), (word, ("hole", 1)))
            self.means(self.bad, "part", (word,), (word, none, none), (word, part), (word, truth), (word, ("hole", 0)))
        for word in ("and", "or"):
            self.means(self.good, "part", (word, part, ("hole", 0)), (word, ("hole", 0), (word, part, part)))
            self.means(self.bad, "part", (word, part), (word,), (word, part, part, part), (word, none, part), (word, part, truth))
        self.means(self.good, "part", ("hole", 0))
        self.means(self.bad, "part", none, ("mark", "x"), ("is", part, none), ("deny", part), ("hole", 1), ("hole", 3))

    def test_truths(self):
        none, part, truth = ("none",), ("no", ("none",)), ("is", ("some", ("none",)), ("mark", "x"))
        self.means(self.good, "truth", truth, ("deny", truth), ("is", ("hole", 0), ("hole", 2)), ("hole", 3))
        for word in ("and", "or"):
            self.means(self.good, "truth", (word, truth, ("hole", 3)), (word, ("hole", 3), truth))
            self.means(self.bad, "truth", (word, truth), (word, part, part), (word, none, truth), (word, truth, truth, truth))
        self.means(
            self.bad, "truth", none, part, ("is", none, part), ("is", part), ("is", part, part), ("is", none, none),
            ("is", part, none, none), ("deny",), ("deny", part), ("deny", truth, truth), ("not", truth), ("hole", 0),
            ("is", ("hole", 1), ("hole", 2)), ("is", ("hole", 0), ("hole", 3)),
        )

    def test_holes(self):
        self.means(
            self.bad, "set", ("hole",), ("hole", 4), ("hole", -3), ("hole", "1"), ("hole", True), ("hole", 1, 2), ("hole", None),
            ("hole", (1,)), ("both", ("hole", 1), ("hole", 1)), ("not", ("both", ("hole", 2), ("not", ("hole", 2)))),
        )
        self.means(self.bad, "truth", ("hole", -1), ("deny", ("hole", -1)), ("and", ("hole", 3), ("deny", ("hole", 3))))
        self.means(self.bad, "part", ("or", ("hole", 0), ("and", ("no", ("none",)), ("hole", 0))))

    def test_a_hole_may_stand_in_both_meanings(self):
        self.good(exchanged(self.book("set", ("hole", 1)), (RULES, 0, RIGHT_MEANING), ("hole", 1)))

    def test_no_terms_at_all(self):
        for kind in ("set", "part", "truth"):
            self.means(self.bad, kind, (), "none", 0, None, [], ["none"], (("none",),), ("",), ("hole",), (0,), ("set",), (None, None))

    def test_at_most_twelve_terms(self):
        none = ("none",)
        three = ("both", none, none)
        seven = ("both", three, three)
        eleven = ("both", ("both", three, three), three)
        twelve = ("both", ("both", three, three), ("not", three))
        thirteen = ("both", ("both", three, three), ("both", three, none))
        fourteen = ("both", ("not", seven), ("both", three, none))
        self.means(self.good, "set", eleven, twelve)
        self.means(self.bad, "set", thirteen, fourteen, ("both", seven, seven))
        twelve = GREAT_MEANING
        for path in ((1, 1, 1, 2), (2, 1, 1, 1), (2, 2)):
            thirteen = exchanged(twelve, path, ("not", entry_at(twelve, path)))
            for at in (LEFT_MEANING, RIGHT_MEANING):
                self.good_with(GREAT, ((RULES, 3, at), twelve))
                self.bad_with(GREAT, ((RULES, 3, at), thirteen))

    def test_names_of_marks_and_numbers_of_holes_are_no_terms(self):
        mark = ("mark", "x")
        three = ("both", mark, mark)
        self.means(self.good, "set", ("both", ("both", three, ("both", ("hole", 1), ("hole", 2))), ("not", three)))

    def test_at_most_five_deep(self):
        def deep(many, last):
            return last if many == 1 else ("not", deep(many - 1, last))

        for last in (("none",), ("mark", "x"), ("hole", 1)):
            self.means(self.good, "set", deep(5, last), ("both", ("none",), deep(4, last)))
            self.means(self.bad, "set", deep(6, last), ("both", ("none",), deep(5, last)), ("both", deep(5, last), ("none",)))
        self.means(self.bad, "set", deep(100, ("none",)))
        inner = ("is", ("all", ("none",)), ("none",))
        self.means(self.good, "truth", ("deny", ("deny", inner)))
        self.means(self.bad, "truth", ("deny", ("deny", ("deny", inner))))


class WordsOf(unittest.TestCase):
    def test_of_E(self):
        self.assertEqual(words_of(E, "right"), ["mir", "miro", "olu", "sen", "seni", "un"])
        self.assertEqual(words_of(E, "left"), ["are", "black", "cat", "cats", "every", "is", "some"])

    def test_of_other_books(self):
        self.assertEqual(words_of(BARE, "left"), ["a"])
        self.assertEqual(words_of(GREAT, "left"), ["a", "abcdefghijkl"])
        self.assertEqual(words_of(GREAT, "right"), ["z9"])
        self.assertEqual(words_of(read_book(LEANING_TEXT), "left"), ["big", "cat"])
        self.assertEqual(words_of(read_book(LEANING_TEXT), "right"), ["mir", "of"])

    def test_a_side_without_words(self):
        holes = (("s", (), ()), ("s", (), ()))
        rule = ("r", ("s", (), ()), holes, (0, 1), (1, 0), ("hole", 0), ("hole", 0))
        self.assertEqual(words_of(exchanged(BARE, (RULES,), (rule,)), "left"), [])

    def test_a_new_list_each_time(self):
        first = words_of(E, "left")
        first.append("more")
        self.assertEqual(words_of(E, "left"), ["are", "black", "cat", "cats", "every", "is", "some"])

    def test_by_name(self):
        self.assertEqual(words_of(side="right", book=BARE), ["a"])

    def test_bad_side(self):
        for side in ["Left", "", "both", ("left",), ["left"], b"left", 0] + strange_things():
            with self.subTest(repr(side)), self.assertRaises(BadSide):
                words_of(E, side)

    def test_bad_book_comes_first(self):
        for book in strange_things() + [list(E), E_TEXT]:
            for side in ("left", "middle", None):
                with self.subTest(repr(book)), self.assertRaises(BadBook):
                    words_of(book, side)


class Turned(unittest.TestCase):
    def test_everything_is_exchanged(self):
        self.assertEqual(write_book(turned(read_book(LEANING_TEXT))), LEANING_TURNED_TEXT)

    def test_turned_E(self):
        book = turned(E)
        self.assertEqual(book[:2] + book[3:4], E[:2] + E[3:4])
        self.assertEqual(book[SORTS][3], ("quality", "set", ("number",), ()))
        self.assertEqual(book[RULES][0], (
            "all", ("phrase", MANY, ONE), (("noun", MANY, ONE),), (0, "olu"), ("every", 0), ("all", H0), ("all", H0),
        ))
        self.assertEqual(book[RULES][3], ("cat2", ("noun", MANY, ONE), (), ("miro",), ("cat",), CAT, CAT))
        self.assertEqual(book[RULES][7], (
            "is", ("clause", (), ()), (("phrase", ("M",), ONE), ("quality", ("M",), ())), (1, 0), (0, "is", 1),
            ("is", H0, H1), ("is", H0, H1),
        ))

    def test_turned_twice(self):
        for book in (E, BARE, GREAT, read_book(LEANING_TEXT)):
            self.assertIs(is_book(turned(book)), True)
            self.assertEqual(turned(turned(book)), book)
            self.assertEqual(words_of(turned(book), "left"), words_of(book, "right"))

    def test_by_name_and_bad_book(self):
        self.assertEqual(turned(book=BARE), BARE)
        for thing in strange_things() + [list(E)]:
            with self.subTest(repr(thing)), self.assertRaises(BadBook):
                turned(thing)


class Widest(unittest.TestCase):
    def test_the_greatest_number_of_holes(self):
        self.assertEqual(widest(E), 2)
        self.assertEqual(widest(BARE), 0)
        self.assertEqual(widest(GREAT), 4)
        self.assertEqual(widest(read_book(LEANING_TEXT)), 2)
        self.assertEqual(widest(exchanged(E, (RULES,), E[RULES][:7])), 1)

    def test_by_name_and_bad_book(self):
        self.assertEqual(widest(book=E), 2)
        for thing in strange_things() + [list(E)]:
            with self.subTest(repr(thing)), self.assertRaises(BadBook):
                widest(thing)


if __name__ == "__main__":
    unittest.main()
