import random
import unittest

from pairedtongues.books import is_book
from pairedtongues.errors import BadBook, BadRows
from pairedtongues.rows import read_book, write_book
from tests.examples import (
    BARE, BARE_TEXT, E, E_ROWS, E_TEXT, GREAT, LEANING_TEXT, LEANING_TURNED_TEXT, exchanged, great_rule, strange_things,
)

GREAT_TEXT = write_book(GREAT)
GREAT_ROWS = GREAT_TEXT.split("\n")
BARE_ROWS = BARE_TEXT.split("\n")
BOOKS = [(E, E_TEXT), (BARE, BARE_TEXT), (GREAT, GREAT_TEXT)]
# The greatest rules again, but not so many of them that each word could not be tried.
TEXTS = [E_TEXT, BARE_TEXT, LEANING_TEXT, "\n".join(GREAT_ROWS[:13 + 2 * 9])]

# Rows of E, by what they are.
FEATURE, MARKS, CLAUSE, PHRASE, NOUN, QUALITY, START, ALL, ALL_HOLE, ALL_LEFT, ALL_RIGHT, ALL_LEFTMEANS, ALL_RIGHTMEANS = range(13)
CAT = E_ROWS.index("rule cat noun one / one")
IS = E_ROWS.index("rule is clause /")


class RowCase(unittest.TestCase):
    def place(self, text):
        """Where the text is refused, None if it is that of a book."""
        try:
            read_book(text)
        except BadRows as error:
            self.assertIs(type(error.row), int)
            self.assertIs(type(error.word), int)
            return (error.row, error.word)
        return None

    def refused(self, rows, row, word):
        self.assertEqual(self.place("\n".join(rows)), (row, word), rows[max(0, row - 1):row + 2])

    def taken(self, rows):
        text = "\n".join(rows)
        self.assertIsNone(self.place(text), rows[:3])
        self.assertIs(is_book(read_book(text)), True)
        self.assertEqual(write_book(read_book(text)), text)

    def in_place(self, rows, at, table):
        """Each (row, word) of the table: the row put in this place is refused at this word."""
        for row, word in table:
            with self.subTest(row):
                self.refused(rows[:at] + [row] + rows[at + 1:], at, word)

    def fine_in_place(self, rows, at, table):
        for row in table:
            with self.subTest(row):
                self.taken(rows[:at] + [row] + rows[at + 1:])


class ThereAndBack(RowCase):
    def test_the_example(self):
        self.assertEqual(write_book(E), E_TEXT)
        self.assertEqual(read_book(E_TEXT), E)

    def test_other_books(self):
        for book, text in BOOKS:
            self.assertEqual(write_book(book), text)
            self.assertEqual(read_book(text), book)
            self.assertIs(is_book(read_book(text)), True)
        for text in (LEANING_TEXT, LEANING_TURNED_TEXT):
            self.assertEqual(write_book(read_book(text)), text)

    def test_the_rows_of_the_greatest(self):
        self.assertEqual(GREAT_ROWS[:5], [
            "feature abcdefghijkl a1 b1 c1", "feature f2 a1 b2 c2", "feature f3 a3 b3 c3", "marks abcdefghijkl b",
            "sort top truth f2 f2 f3 / f3 f2 f3",
        ])
        self.assertEqual(GREAT_ROWS[12:22], [
            "start top", "rule r0 top A b2 B / B A a3", "hole part1 C /", "hole set1 / A B a1", "hole set2 /",
            "hole part2 c2 / A", "left 3 a 1 0 abcdefghijkl 2", "right z9 0 2 1 3 z9",
            "leftmeans and deny deny is 0 1 is or all 2 3 mark abcdefghijkl",
            "rightmeans or deny deny is 3 1 is and more 2 0 mark b",
        ])

    def test_all_tuples_and_integers_at_every_depth(self):
        def kinds(thing):
            return (type(thing), [kinds(part) for part in thing]) if isinstance(thing, tuple) else type(thing)

        for book, text in BOOKS:
            self.assertEqual(kinds(read_book(text)), kinds(book))

    def test_each_word_of_meanings(self):
        rows = [
            "marks x", "sort s set /", "sort p part /", "sort t truth /", "start t",
            "rule a s /", "left a", "right a", "leftmeans not both none mark x", "rightmeans either mark x none",
            "rule b p /", "left a", "right a", "leftmeans and all none some mark x", "rightmeans or no none more none",
            "rule c t /", "left a", "right a", "leftmeans deny and is no none none is no none none",
            "rightmeans or is no none none deny is more none mark x",
        ]
        self.taken(rows)
        none, mark = ("none",), ("mark", "x")
        nothing = ("is", ("no", none), none)
        self.assertEqual([rule[5:] for rule in read_book("\n".join(rows))[4]], [
            (("not", ("both", none, mark)), ("either", mark, none)),
            (("and", ("all", none), ("some", mark)), ("or", ("no", none), ("more", none))),
            (("deny", ("and", nothing, nothing)), ("or", nothing, ("deny", ("is", ("more", none), mark)))),
        ])

    def test_by_name(self):
        self.assertEqual(write_book(book=BARE), BARE_TEXT)
        self.assertEqual(read_book(text=BARE_TEXT), BARE)

    def test_bad_book(self):
        for thing in strange_things() + [E_TEXT, list(E), exchanged(E, (1,), ["black", "cat"])]:
            with self.subTest(repr(thing)[:80]), self.assertRaises(BadBook):
                write_book(thing)

    def test_what_is_no_str(self):
        for thing in strange_things() + [E, E_ROWS, E_TEXT.encode()]:
            if not isinstance(thing, str):
                with self.subTest(repr(thing)[:80]):
                    self.assertEqual(self.place(thing), (0, 0))


class EachWord(RowCase):
    """Words that fit nowhere, and words that are lacking, all through the texts."""

    def test_exchanged(self):
        for text in TEXTS:
            rows = text.split("\n")
            for at, row in enumerate(rows):
                words = row.split(" ")
                for place in range(len(words)):
                    for strange in ("?", "", "4", "a_b", "abcdefghij123", "\t", "Cat", "\u0660", "//"):
                        changed = " ".join(words[:place] + [strange] + words[place + 1:])
                        self.refused(rows[:at] + [changed] + rows[at + 1:], at, place)

    def test_put_in(self):
        for text in TEXTS:
            rows = text.split("\n")
            for at, row in enumerate(rows):
                words = row.split(" ")
                for place in range(len(words) + 1):
                    for strange in ("?", ""):
                        changed = " ".join(words[:place] + [strange] + words[place:])
                        self.refused(rows[:at] + [changed] + rows[at + 1:], at, place)

    def test_cut_off(self):
        right_already = {("left 0 1 big", 3), ("right mir mir", 2), ("right z9 0 2 1 3 z9", 6)}
        for text in TEXTS:
            rows = text.split("\n")
            for at, row in enumerate(rows):
                words = row.split(" ")
                if words[0] in ("feature", "marks", "sort"):
                    # Cut off, these may still be right: see the tests of each of them.
                    continue
                for many in range(1, len(words)):
                    changed = rows[:at] + [" ".join(words[:many])] + rows[at + 1:]
                    if (row, many) in right_already:
                        self.taken(changed)
                    else:
                        self.refused(changed, at, many)
                self.refused(rows[:at] + [""] + rows[at + 1:], at, 0)

    def test_left_out(self):
        # For each row of the first rule: where the text without this word is refused.
        expected = {
            START: [0, 1], ALL: [0, 2, 2, 3, 4, 5], ALL_HOLE: [0, 1, 2, 3, 4], ALL_LEFT: [0, None, 2],
            ALL_RIGHT: [0, 2, None], ALL_LEFTMEANS: [0, 1, 2], IS: [0, 2, 2, 3], IS + 1: [0, 1, 2, 3, 4],
            IS + 3: [0, 3, None, 3], IS + 4: [0, 2, 2], IS + 5: [0, 1, 2, 3], CAT: [0, 2, 2, 3, 4, 5],
            CAT + 1: [0, 1], CAT + 3: [0, 1, 2],
        }
        lone = {(ALL_LEFT, 1): 2, (ALL_RIGHT, 2): 2}
        for at, places in expected.items():
            words = E_ROWS[at].split(" ")
            self.assertEqual(len(places), len(words))
            for out, place in enumerate(places):
                rows = E_ROWS[:at] + [" ".join(words[:out] + words[out + 1:])] + E_ROWS[at + 1:]
                with self.subTest(rows[at]):
                    if (at, out) in lone:
                        self.refused(rows, at, lone[at, out])
                    elif place is None:
                        self.taken(rows)
                    else:
                        self.refused(rows, at, place)


class Rows(RowCase):
    def test_empty_rows(self):
        for _, text in BOOKS:
            rows = text.split("\n")
            for at in range(len(rows) + 1):
                self.refused(rows[:at] + [""] + rows[at:], at, 0)

    def test_nothing_at_all(self):
        self.assertEqual(self.place(""), (0, 0))
        self.assertEqual(self.place(" "), (0, 0))
        self.assertEqual(self.place("\n"), (0, 0))

    def test_rows_that_end_too_early(self):
        for _, text in BOOKS:
            rows = text.split("\n")
            ends = [at for at, row in enumerate(rows) if row.startswith("rule ")][1:]
            for many in range(1, len(rows)):
                if many in ends:
                    self.taken(rows[:many])
                else:
                    self.refused(rows[:many], many, 0)

    def test_rows_that_are_too_many(self):
        for _, text in BOOKS:
            rows = text.split("\n")
            for more in ("marks", "start s", "end", "left a", "rightmeans none", " ", "feature number one", "rules"):
                self.refused(rows + [more], len(rows), 0)

    def test_rows_left_out(self):
        for at, row in enumerate(E_ROWS):
            rows = E_ROWS[:at] + E_ROWS[at + 1:]
            if row.split(" ")[0] not in ("feature", "sort", "hole"):
                self.refused(rows, at, 0)
        self.refused(E_ROWS[1:], 2, 3)
        self.refused(E_ROWS[:CLAUSE] + E_ROWS[CLAUSE + 1:], START - 1, 1)
        self.refused(E_ROWS[:NOUN] + E_ROWS[NOUN + 1:], ALL_HOLE - 1, 1)
        self.refused(E_ROWS[:ALL_HOLE] + E_ROWS[ALL_HOLE + 1:], ALL_HOLE, 2)
        self.refused(E_ROWS[:IS + 1] + E_ROWS[IS + 2:], IS + 2, 3)

    def test_rows_put_twice(self):
        for at, row in enumerate(E_ROWS):
            rows = E_ROWS[:at] + [row] + E_ROWS[at:]
            first = row.split(" ")[0]
            if first in ("feature", "sort"):
                self.refused(rows, at + 1, 1)
            elif first != "hole":
                self.refused(rows, at + 1, 0)
        rows = E_ROWS[:ALL_HOLE] + E_ROWS[ALL_HOLE:ALL_HOLE + 1] + E_ROWS[ALL_HOLE:]
        self.refused(rows, ALL_LEFT + 1, 3)

    def test_rows_exchanged(self):
        for at in range(len(E_ROWS) - 1):
            first, second = E_ROWS[at], E_ROWS[at + 1]
            kinds = (first.split(" ")[0], second.split(" ")[0])
            if kinds[0] == kinds[1]:
                continue
            rows = E_ROWS[:at] + [second, first] + E_ROWS[at + 2:]
            if kinds == ("feature", "marks"):
                self.refused(rows, 1, 0)
            elif kinds == ("sort", "start"):
                self.refused(rows, START, 0)
            elif kinds == ("hole", "left"):
                # The side comes ahead of the hole whose number it has.
                self.refused(rows, at, 2 if at < IS else 3)
            else:
                self.refused(rows, at, 0)

    def test_the_first_row_that_does_not_fit(self):
        rows = ["feature number one", "feature number two two", "marks 1", "nonsense"]
        self.refused(rows, 1, 1)
        rows[1] = "feature number2 two two"
        self.refused(rows, 1, 3)
        rows[1] = "feature number2 two"
        self.refused(rows, 2, 1)
        rows[2] = "marks"
        self.refused(rows, 3, 0)

    def test_only_line_feeds_part_rows(self):
        for other in ("\r\n", "\r", "\x0b", "\x0c", "\u2028", "\x85"):
            self.assertEqual(self.place(E_TEXT.replace("\n", other, 1)), (0, 3))

    def test_only_blanks_part_words(self):
        for other in ("\t", "\u00a0", "\u3000"):
            self.assertEqual(self.place(E_TEXT.replace(" ", other, 1)), (0, 0))


class FeatureRows(RowCase):
    def test_words(self):
        self.in_place(BARE_ROWS, 0, [("features f a", 0), ("Feature f a", 0), (" feature f a", 0), ("mark", 0), ("sort s set /", 0)])
        for row, word in [
            ("feature", 1), ("feature ", 1), ("feature f", 2), ("feature F a", 1), ("feature f ", 2), ("feature f A", 2),
            ("feature f a a", 3), ("feature f a b a", 4), ("feature f a b c d", 5), ("feature f a b c ", 5), ("feature  f a", 1),
            ("feature f /", 2), ("feature f 0", 2), ("feature abcdefghij123 a", 1), ("feature f abcdefghij123", 2),
        ]:
            with self.subTest(row):
                self.refused([row] + BARE_ROWS, 0, word)
        for row in ("feature f f", "feature f a b", "feature f a b c", "feature abcdefghij12 abcdefghij12", "feature marks marks"):
            self.taken([row] + BARE_ROWS)

    def test_cut_off(self):
        self.refused(["feature number one"] + E_ROWS[1:], ALL, 5)
        self.refused(["feature number"] + E_ROWS[1:], 0, 2)

    def test_at_most_three(self):
        three = ["feature f a b c", "feature g a b c", "feature h a b c"]
        self.taken(three + BARE_ROWS)
        for fourth in ("feature i a", "feature f", "feature"):
            self.refused(three + [fourth] + BARE_ROWS, 3, 0)

    def test_no_name_twice(self):
        self.refused(["feature f a", "feature g a", "feature f b"] + BARE_ROWS, 2, 1)
        self.refused(["feature f a", "feature f"] + BARE_ROWS, 1, 1)


class MarksRows(RowCase):
    def test_words(self):
        self.in_place(BARE_ROWS, 0, [
            ("marks ", 1), ("marks a a", 2), ("marks a b c", 3), ("marks a b a", 3), ("marks A", 1), ("marks a ", 2), ("marks a b ", 3),
            ("marks  a", 1), ("marks 0", 1), ("marks abcdefghij123", 1), ("marks /", 1), ("marks a b 7", 3),
        ])
        self.fine_in_place(BARE_ROWS, 0, ["marks", "marks a", "marks b a", "marks abcdefghij12", "marks marks mark"])

    def test_cut_off(self):
        self.refused(E_ROWS[:1] + ["marks black"] + E_ROWS[2:], CAT + 3, 2)
        self.refused(E_ROWS[:1] + ["marks"] + E_ROWS[2:], CAT + 3, 2)


class SortRows(RowCase):
    def test_words(self):
        rows = GREAT_ROWS[:3] + BARE_ROWS[:1] + ["sort more truth /"] + BARE_ROWS[1:]
        self.in_place(rows, 4, [
            ("sort", 1), ("sort t", 2), ("sort t set", 3), ("sort S set /", 1), ("sort t sets /", 2), ("sort t mark /", 2),
            ("sort t set //", 3), ("sort t set f4 /", 3), ("sort t set a1 /", 3), ("sort t set f2", 4), ("sort t set f2 f4 /", 4),
            ("sort t set / f4", 4), ("sort t set / f2 f3 /", 6), ("sort t set / /", 4), ("sort t set f2 f2 f2 f2 /", 6),
            ("sort t set f2 f3 f2 f4", 6), ("sort t set f2 f3 f2", 6), ("sort t set / f2 f3 f2 f2", 7),
            ("sort t set f2 f3 f2 / f2 f3 f2 ", 10), ("sort t set / ", 4), ("sort t  /", 2), ("sort  set /", 1), ("sort t set  /", 3),
            ("sort t / set", 2), ("sort t set t /", 3), ("sort t set F /", 3), ("sorts t set /", 0), ("sort abcdefghij123 set /", 1),
        ])
        self.fine_in_place(rows, 4, [
            "sort t set /", "sort t part /", "sort t truth /", "sort t set f2 f2 f2 / f3 abcdefghijkl f3", "sort f2 set f2 /",
            "sort set set / f2", "sort abcdefghij12 set /",
        ])

    def test_cut_off(self):
        self.refused(E_ROWS[:PHRASE] + ["sort phrase part number /"] + E_ROWS[NOUN:], ALL, 5)
        self.refused(E_ROWS[:PHRASE] + ["sort phrase part number"] + E_ROWS[NOUN:], PHRASE, 4)
        self.refused(E_ROWS[:PHRASE] + ["sort phrase part"] + E_ROWS[NOUN:], PHRASE, 3)
        self.refused(E_ROWS[:PHRASE] + ["sort phrase"] + E_ROWS[NOUN:], PHRASE, 2)
        self.refused(E_ROWS[:PHRASE] + ["sort"] + E_ROWS[NOUN:], PHRASE, 1)

    def test_no_name_twice(self):
        self.refused(BARE_ROWS[:2] + ["sort s truth /"] + BARE_ROWS[2:], 2, 1)
        self.refused(BARE_ROWS[:2] + ["sort t set /", "sort s what"] + BARE_ROWS[2:], 3, 1)

    def test_one_to_eight(self):
        more = [f"sort t{number} part /" for number in range(8)]
        self.taken(BARE_ROWS[:2] + more[:7] + BARE_ROWS[2:])
        self.refused(BARE_ROWS[:2] + more + BARE_ROWS[2:], 9, 0)
        self.refused(BARE_ROWS[:2] + more[:7] + ["sort"] + BARE_ROWS[2:], 9, 0)
        self.refused(BARE_ROWS[:1] + BARE_ROWS[2:], 1, 0)


class StartRows(RowCase):
    def test_words(self):
        self.in_place(E_ROWS, START, [
            ("start", 1), ("start ", 1), ("start number", 1), ("start all", 1), ("start clauses", 1), ("start clause noun", 2),
            ("start clause ", 2), ("start  clause", 1), ("start truth", 1), ("start CLAUSE", 1), ("begin clause", 0),
        ])
        self.fine_in_place(E_ROWS, START, ["start clause", "start phrase", "start noun", "start quality"])


class RuleRows(RowCase):
    def test_words(self):
        for at, name in ((ALL, "all"), (CAT, "cat")):
            row = "rule " + name
            self.in_place(E_ROWS, at, [
                ("rule", 1), (row, 2), ("rule A noun one / one", 1), ("rule 0 noun one / one", 1), (row + " nouns one / one", 2),
                (row + " number one / one", 2), (row + " noun", 3), (row + " noun /", 3), (row + " noun one", 4),
                (row + " noun one /", 5), (row + " noun / one", 3), (row + " noun one one / one", 4), (row + " noun one / one one", 6),
                (row + " noun one / one ", 6), (row + " noun two / one", 3), (row + " noun one / two", 5), (row + " noun number / one", 3),
                (row + " noun NN / one", 3), (row + " noun one / /", 5), (row + " noun one /  one", 5), (row + " noun  one / one", 3),
                (row + " clause one /", 3), (row + " clause / one", 4), (row + " / one one", 2), (row + " none / one", 2),
            ])
        self.in_place(E_ROWS, IS, [("rule cat", 1), ("rule all what", 1), ("rule black clause /", 1)])
        self.refused(E_ROWS[:-7] + ["rule is clause /"] + E_ROWS[-6:], len(E_ROWS) - 7, 1)

    def test_rules_that_fit(self):
        self.fine_in_place(E_ROWS, CAT, [
            "rule noun noun one / one", "rule one noun N / M", "rule rule noun A / A", "rule abcdefghij12 noun Z / many",
        ])

    def test_values_of_its_own_feature(self):
        at = GREAT_ROWS.index("rule r1 top A b2 B / B A a3")
        self.in_place(GREAT_ROWS, at, [
            ("rule r1 top b1 b2 B / B A a3", 3), ("rule r1 top A b3 B / B A a3", 4), ("rule r1 top A b2 a1 / B A a3", 5),
            ("rule r1 top A b2 B / b2 A a3", 7), ("rule r1 top A b2 B / B a3 a3", 8), ("rule r1 top A b2 B / B A a2", 9),
            ("rule r1 top A b2 / B A a3", 5), ("rule r1 top A / B A a3", 4), ("rule r1 top A b2 B B A a3", 6),
        ])

    def test_a_variable_for_one_feature(self):
        at = GREAT_ROWS.index("rule r1 top A b2 B / B A a3")
        self.in_place(GREAT_ROWS, at, [
            ("rule r1 top A b2 A / B A a3", 5), ("rule r1 top A b2 B / A A a3", 7), ("rule r1 top A b2 B / B B a3", 8),
        ])
        self.in_place(GREAT_ROWS, at + 1, [("hole part1 A /", 2), ("hole part1 B /", 2)])
        self.in_place(GREAT_ROWS, at + 2, [("hole set1 / A A a1", 4), ("hole set1 / C B a1", 3), ("hole set1 / A B B", 5)])
        self.fine_in_place(GREAT_ROWS, at + 2, ["hole set1 / A B A", "hole set1 / a1 B A"])

    def test_at_most_three_variables(self):
        at = GREAT_ROWS.index("rule r1 top A b2 B / B A a3")
        self.in_place(GREAT_ROWS, at + 4, [("hole part2 D / A", 2), ("hole part2 A / D", 4), ("hole part2 Z / z", 2)])
        self.in_place(GREAT_ROWS, at, [("rule r1 top A D B / E A a3", 7), ("rule r1 top A D B / B E a3", 8)])
        self.refused(GREAT_ROWS[:at] + ["rule r1 top A D B / B A a3"] + GREAT_ROWS[at + 1:], at + 1, 2)

    def test_one_to_twenty_four(self):
        more = write_book(exchanged(GREAT, (4,), (great_rule("other"),))).split("\n")[13:]
        self.assertEqual(len(more), 9)
        self.refused(GREAT_ROWS + more, len(GREAT_ROWS), 0)
        self.refused(GREAT_ROWS + ["rule"], len(GREAT_ROWS), 0)
        self.taken(GREAT_ROWS[:-9] + more)
        self.refused(GREAT_ROWS[:13], 13, 0)


class HoleRows(RowCase):
    def test_words(self):
        self.in_place(E_ROWS, ALL_HOLE, [
            ("hole", 1), ("hole nouns one / many", 1), ("hole noun", 2), ("hole noun /", 2), ("hole noun one", 3), ("hole noun one /", 4),
            ("hole noun one / many one", 5), ("hole noun one / many ", 5), ("hole noun one many / many", 3), ("hole noun two / many", 2),
            ("hole noun one / 0", 4), ("hole  noun one / many", 1), ("hole noun / many", 2), ("holes noun one / many", 0),
        ])
        self.fine_in_place(E_ROWS, ALL_HOLE, ["hole noun A / B", "hole quality / many", "hole noun many / N"])

    def test_at_most_four(self):
        def rule(many, digits):
            return ["rule r s /"] + ["hole s /"] * many + ["left " + digits, "right " + digits, "leftmeans none", "rightmeans 0"]

        self.taken(BARE_ROWS[:3] + rule(4, "0 1 2 3"))
        self.refused(BARE_ROWS[:3] + rule(5, "0 1 2 3 4"), 8, 0)
        self.refused(BARE_ROWS[:3] + ["rule r s /"] + ["hole s /"] * 4 + ["hole"], 8, 0)


class SideRows(RowCase):
    def test_words_alone(self):
        for at in (CAT + 1, CAT + 2):
            first = E_ROWS[at].split(" ")[0]
            self.in_place(E_ROWS, at, [
                (first, 1), (first + " ", 1), (first + " 0", 1), (first + " a 0", 2), (first + " A", 1), (first + " a /", 2),
                (first + " a a a a a a a", 7), (first + " a a a a a a ", 7), (first + " a a a a a a ?", 7), (first + " a  a", 2),
                (first + " abcdefghij123", 1), (first + " 4", 1), (first + " 01", 1), (first + " cat ", 2), ("middle a", 0),
            ])
            self.fine_in_place(E_ROWS, at, [first + " a", first + " a a a a a a", first + " left right", first + " abcdefghij12"])

    def test_one_hole(self):
        for at in (ALL_LEFT, ALL_RIGHT):
            first = E_ROWS[at].split(" ")[0]
            self.in_place(E_ROWS, at, [
                (first, 1), (first + " 0", 2), (first + " a", 2), (first + " a a a a a", 6), (first + " a a a a a a", 7),
                (first + " a a a a a a 0", 7), (first + " 0 0", 2), (first + " 0 a 0", 3), (first + " 1", 1), (first + " 0 1", 2),
                (first + " a 00", 2), (first + " a \u0660", 2), (first + " a 0 ", 3), (first + " a -1", 2), (first + " 0 ", 2),
            ])
            self.fine_in_place(E_ROWS, at, [first + " 0 a", first + " a 0", first + " a a a 0 a a", first + " a a a a a 0"])

    def test_more_holes(self):
        for at in (IS + 3, IS + 4):
            first = E_ROWS[at].split(" ")[0]
            self.in_place(E_ROWS, at, [
                (first + " 0", 2), (first + " 1", 2), (first + " 0 is", 3), (first + " is 1", 3), (first + " 0 0", 2), (first + " 1 is 1", 3),
                (first + " 0 1 2", 3), (first + " 2", 1), (first + " a a a a a 0", 7), (first + " a a a a a 0 1", 7), (first, 1),
                (first + " 0 1 0", 3), (first + " 0 1 ", 3),
            ])
            self.fine_in_place(E_ROWS, at, [first + " 0 1", first + " 1 0", first + " a a a a 1 0"])

    def test_four_holes(self):
        at = GREAT_ROWS.index("left 3 a 1 0 abcdefghijkl 2")
        self.in_place(GREAT_ROWS, at, [
            ("left 3 a 1 0 b 2 3", 7), ("left 3 2 1 4", 4), ("left 3 2 1", 4), ("left 0 1 2 a b c", 7), ("left 3 a 1 0 b 2 b", 7),
        ])
        self.fine_in_place(GREAT_ROWS, at, ["left 0 1 2 3", "left 3 2 1 0 a", "left a b 3 2 1 0"])


class MeaningRows(RowCase):
    """Rules with holes of the kinds part, set, set and truth."""

    def rows(self, kind):
        head = {"part": "p", "set": "s", "truth": "t"}[kind]
        plain = {"part": "no none", "set": "none", "truth": "deny 3"}[kind]
        return [
            "marks x y", "sort p part /", "sort s set /", "sort t truth /", "start t", f"rule r {head} /", "hole p /", "hole s /",
            "hole s /", "hole t /", "left 0 1 2 3", "right 3 2 1 0", "leftmeans " + plain, "rightmeans " + plain,
        ]

    def refuses(self, kind, table):
        for at, first in ((12, "leftmeans"), (13, "rightmeans")):
            self.in_place(self.rows(kind), at, [((first + " " + words) if words else first, word) for words, word in table])

    def takes(self, kind, table):
        for at, first in ((12, "leftmeans"), (13, "rightmeans")):
            self.fine_in_place(self.rows(kind), at, [first + " " + words for words in table])

    def test_sets(self):
        self.takes("set", [
            "none", "mark x", "mark y", "1", "2", "not 1", "both 1 2", "either 2 1", "either not none both mark x mark y",
        ])
        self.refuses("set", [
            ("", 1), ("mark", 2), ("mark z", 2), ("mark mark", 2), ("mark 1", 2), ("mark x x", 3), ("none none", 2), ("1 2", 2), ("not", 2),
            ("both none", 3), ("both", 2), ("either none none none", 4), ("0", 1), ("3", 1), ("both 1 1", 3), ("both 1 not 1", 4),
            ("all none", 1), ("some none", 1), ("no none", 1), ("more none", 1), ("and none none", 1), ("or none none", 1), ("is 0 1", 1),
            ("deny 3", 1), ("not all none", 2), ("both none 0", 3), ("set", 1), ("hole 1", 1), ("x", 1), ("N", 1), ("not mark 0", 3),
        ])

    def test_parts(self):
        self.takes("part", ["all 1", "some none", "no not 1", "more mark x", "and 0 all 1", "or no none 0", "0"])
        self.refuses("part", [
            ("", 1), ("1", 1), ("3", 1), ("none", 1), ("mark x", 1), ("not 1", 1), ("both 1 2", 1), ("either 1 2", 1), ("is 0 1", 1),
            ("deny 3", 1), ("all", 2), ("all 0", 2), ("all all none", 2), ("some deny", 2), ("and", 2), ("and 0", 3), ("and 0 0", 3),
            ("and 0 1", 3), ("or all 1 some 1", 5), ("or all 1 some 2 none", 6), ("or mark", 2), ("no 1 1", 3), ("more is", 2),
        ])

    def test_truths(self):
        self.takes("truth", ["is 0 1", "is no none none", "3", "deny 3", "and 3 is 0 2", "or is 0 2 deny 3"])
        self.refuses("truth", [
            ("", 1), ("0", 1), ("1", 1), ("none", 1), ("mark x", 1), ("not 1", 1), ("both 1 2", 1), ("all 1", 1), ("no none", 1), ("is", 2),
            ("is 1", 2), ("is 0", 3), ("is 0 0", 3), ("is 0 3", 3), ("is 0 all 1", 3), ("is all 1 1", 4), ("is 0 1 2", 4), ("deny", 2),
            ("deny 0", 2), ("deny deny", 3), ("and 3 3", 3), ("and 3", 3), ("and all 1 3", 2), ("or 3 is 0 3", 5), ("deny 3 ", 3),
            ("deny  3", 2), (" deny 3", 1),
        ])

    def test_holes_that_the_rule_has(self):
        for at in (ALL_LEFTMEANS, ALL_RIGHTMEANS):
            first = E_ROWS[at].split(" ")[0]
            self.in_place(E_ROWS, at, [(first + " all 1", 2), (first + " and all 0 all 0", 5), (first + " 0", 1), (first + " all 4", 2)])
        self.in_place(E_ROWS, CAT + 3, [("leftmeans 0", 1), ("leftmeans not 0", 2)])
        self.in_place(E_ROWS, IS + 5, [("leftmeans is 1 0", 2), ("leftmeans is 0 0", 3), ("leftmeans is all 1 1", 4)])

    def test_words_of_both_parts_and_truths(self):
        self.takes("truth", ["and 3 is and 0 all 1 2", "or is or all 1 0 2 3"])
        self.refuses("truth", [("is and 3 0 1", 3), ("and is and 0 3", 5)])

    def test_at_most_twelve_terms(self):
        twelve = "both both both none none both none none both mark x not mark y"
        self.takes("set", [twelve, "both both both mark x mark y both 1 2 both mark x not mark y"])
        self.refuses("set", [
            ("both both both none none both none none both none both none none", 13),
            ("both both both none none both none none both mark x both mark y none", 15),
            ("both both both none none both none none both none not not none", 13),
            ("both both both none none both none none both none both none 1", 13),
            ("both both both none none both none none both none both none 7", 13),
            ("both both both none none both none none both none both none", 13),
            (twelve + " none", 15), (twelve + " mark", 15), ("both both both none none both none none both mark x", 12),
        ])

    def test_at_most_five_deep(self):
        self.takes("set", ["not not not not none", "not not not not mark x", "not not not not 1", "both none not not not none"])
        self.refuses("set", [
            ("not not not not not none", 6), ("not not not not not", 6), ("not not not not both none none", 6), ("not not not not", 5),
            ("not not not not not not", 6), ("not not not not not ?", 6), ("both none not not not not none", 7), ("both not not not not 1 none", 6),
            ("not not not not mark z", 6), ("not not not not none none", 6),
        ])
        self.takes("truth", ["deny deny deny 3", "deny deny deny deny 3", "deny deny is no none none"])
        self.refuses("truth", [("deny deny deny is no none none", 6), ("deny deny deny deny deny 3", 6), ("deny deny deny deny is 0 1", 6)])


class Changed(RowCase):
    """Texts with some words exchanged, put in or left out: what holds wherever they are refused."""

    def changed(self, chance, rows, words):
        rows = [row.split(" ") for row in rows]
        for _ in range(chance.choice((1, 1, 1, 2, 3))):
            at = chance.randrange(len(rows))
            place = chance.randrange(len(rows[at]) + 1)
            deed = chance.choice("eeeiol")
            if deed == "e" and place < len(rows[at]):
                rows[at][place] = chance.choice(words)
            elif deed == "i":
                rows[at].insert(place, chance.choice(words))
            elif deed == "o" and place < len(rows[at]):
                del rows[at][place]
            elif deed == "l":
                rows.insert(chance.randrange(len(rows)), list(chance.choice(rows)))
        return [" ".join(row) for row in rows]

    def test_what_holds_for_all_of_them(self):
        chance = random.Random(8)
        books = 0
        for rows in (BARE_ROWS, E_ROWS, LEANING_TEXT.split("\n"), GREAT_ROWS[:13 + 9]):
            words = sorted(set(" ".join(rows).split(" "))) + ["", "?", "0", "1", "2", "3", "A", "B", "zz", "/", "none", "not", "deny"]
            for _ in range(1500):
                changed = self.changed(chance, rows, words)
                place = self.place("\n".join(changed))
                if place is None:
                    books += 1
                    self.taken(changed)
                else:
                    self.refused_by_what_is_ahead(changed, *place)
        self.assertGreater(books, 200)

    def refused_by_what_is_ahead(self, rows, row, word):
        if row == len(rows):
            self.assertEqual(word, 0)
            return
        words = rows[row].split(" ")
        self.assertLessEqual(word, len(words))
        self.refused(rows[:row] + [" ".join(words[:word + 1])], row, word)
        # What is ahead of the word is not refused there: with nothing behind, the end of the row or the rows is.
        if 0 < word < len(words):
            ahead = self.place("\n".join(rows[:row] + [" ".join(words[:word])]))
            self.assertIn(ahead, (None, (row, word), (row + 1, 0)))


if __name__ == "__main__":
    unittest.main()
