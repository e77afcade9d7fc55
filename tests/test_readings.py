import itertools
import unittest

from pairedtongues.books import turned, words_of
from pairedtongues.errors import BadReading, TooMany
from pairedtongues.readings import count_readings, read_by, reading_holds, readings
from tests.cases import CATALAN, FOUR, FOUR_RIGHT, Case, alike_five_hundred, five_hundred, plain_book, plain_rule, shared_tower, spoilt
from tests.examples import BARE, E, strange_things
from tests.naive import SIDES, Naive, random_book

EVERY = ("every", "cat", "is", "black")
EVERY_READINGS = [
    (7, (), ((0, (), ((2, (), ()),)), (5, (), ()))),
    (7, (), ((0, (), ((2, (), ()),)), (6, (), ()))),
    (7, (), ((0, (), ((3, (), ()),)), (5, (), ()))),
    (7, (), ((0, (), ((3, (), ()),)), (6, (), ()))),
]

# How many ways there are to part 1 to 8 words again and again in two, with
# two rules for each parting.
PARTINGS = [1, 2, 8, 40, 224, 1344, 8448, 54912]

# Holes alone side by side; rules that come round to their own sort again, but
# never without a word more.
ROUND = plain_book(
    plain_rule("pair", "s", "tt", (0, 1), (1, 0)), plain_rule("back", "t", "su", (1, 0), (0, 1)),
    plain_rule("on", "u", "t", (0, "a"), ("a", 0)), plain_rule("a", "t", "", ("a",), ("b",)),
    plain_rule("b", "u", "", ("b",), ("b",)), plain_rule("self", "s", "s", ("a", 0), (0, "b")),
    sorts="stu",
)

# A reading of nine words, and what has eight of them.
LONG = plain_book(
    plain_rule("top", "s", "s", ("a", 0), (0, "a", "a", "a")), plain_rule("six", "s", "", ("a",) * 6, ("a",)),
    plain_rule("two", "s", "", ("a", "a"), ("a",)),
)
SIX, TWO = (1, (), ()), (2, (), ())


class Readings(Case):
    def reads(self, book, side, text, expected):
        self.answers(readings, [("book", book), ("side", side), ("text", text)], expected)
        self.answers(count_readings, [("book", book), ("side", side), ("text", text)], len(expected))

    def test_the_example(self):
        self.reads(E, "left", EVERY, EVERY_READINGS)

    def test_other_texts_of_E(self):
        self.reads(E, "left", ("some", "cats", "are", "black"), [
            (8, (), ((1, ("many",), ((4, (), ()),)), (5, (), ()))), (8, (), ((1, ("many",), ((4, (), ()),)), (6, (), ()))),
        ])
        self.reads(E, "right", ("seni", "miro", "olu"), [
            (number, ("many",), ((0, (), ((noun, (), ()),)), (6, (), ()))) for number in (7, 8) for noun in (3, 4)
        ])
        self.reads(E, "right", ("sen", "un", "mir"), [
            (number, ("one",), ((1, ("one",), ((2, (), ()),)), (5, (), ()))) for number in (7, 8)
        ])

    def test_texts_without_readings(self):
        for text in [("cat",), ("every", "cats", "is", "black"), ("some", "cats", "are"), ("zz",), EVERY + ("black",),
                     ("every", "cat", "are", "black"), ("is",) * 8, ("a", "zz", "b0"), ("every", "cat")]:
            self.reads(E, "left", text, [])
        self.reads(E, "right", EVERY, [])
        self.reads(E, "right", ("seni", "un", "mir"), [])

    def test_a_rule_of_words_alone(self):
        self.reads(BARE, "left", ("a",), [(0, (), ())])
        self.reads(BARE, "left", ("a", "a"), [])
        self.reads(LONG, "left", ("a",) * 6, [(0, (), ((0, (), ((0, (), ((0, (), (TWO,)),)),)),)), (1, (), ())])

    def test_the_start_sort_may_have_any_form(self):
        book = E[:3] + ("noun",) + E[4:]
        self.reads(book, "left", ("cat",), [(2, (), ()), (3, (), ())])
        self.reads(book, "left", ("cats",), [(4, (), ())])
        self.reads(book, "right", ("miro",), [(3, (), ()), (4, (), ())])

    def test_a_circle_with_a_word_more(self):
        word, other = (3, (), ()), (4, (), ())
        self.reads(ROUND, "left", ("a", "a"), [(0, (), (word, word))])
        back = (1, (), ((0, (), (word, word)), other))
        self.reads(ROUND, "left", ("b", "a", "a"), [])
        self.reads(ROUND, "left", ("b", "a", "a", "a"), [(0, (), (back, word))])
        self.reads(ROUND, "left", ("a", "b", "a", "a"), [(0, (), (word, back)), ])
        self.reads(ROUND, "right", ("b", "b"), [(0, (), (word, word))])

    def test_words_that_are_not_those_of_the_rule(self):
        book = plain_book(plain_rule("r", "s", "s", ("a", 0, "b", "c"), (0, "a")), plain_rule("w", "s", "", ("d", "e"), ("d",)))
        good = ("a", "d", "e", "b", "c")
        self.reads(book, "left", good, [(0, (), ((1, (), ()),))])
        for at in range(5):
            for word in "abcdef":
                if word != good[at]:
                    self.reads(book, "left", good[:at] + (word,) + good[at + 1:], [])
            self.reads(book, "left", good[:at] + good[at + 1:], [])

    def test_five_hundred(self):
        for book in (five_hundred(False), alike_five_hundred(False)):
            found = readings(book, "left", FOUR)
            self.assertEqual(len(found), 500)
            self.assertEqual(found, sorted(found))
            self.assertEqual(found, Naive(book).readings("left", FOUR))
            self.assertEqual(count_readings(book, "left", FOUR), 500)
        self.assertEqual(len(readings(alike_five_hundred(False), "right", FOUR_RIGHT)), 500)
        self.assertEqual(len(readings(five_hundred(False), "right", ("z0", "x1", "w2", "y3"))), 1)

    def test_five_hundred_and_one(self):
        for book, side, text in [(five_hundred(True), "left", FOUR), (alike_five_hundred(True), "right", FOUR_RIGHT)]:
            with self.assertRaises(TooMany):
                readings(book, side, text)
            self.assertEqual(count_readings(book, side, text), 501)

    def test_counts_far_beyond(self):
        for size, number in enumerate(PARTINGS, start=1):
            self.assertEqual(count_readings(CATALAN, "left", ("a",) * size), number)
            self.assertEqual(count_readings(CATALAN, "right", ("b",) * size), number)
            if number > 500:
                with self.assertRaises(TooMany):
                    readings(CATALAN, "left", ("a",) * size)
            else:
                self.assertEqual(len(readings(CATALAN, "left", ("a",) * size)), number)

    def test_too_many_parts_of_no_reading(self):
        # Two sorts have very many readings of the first seven words, but the eighth one fits nothing.
        self.reads(CATALAN, "left", ("a",) * 7 + ("b",), [])

    def test_in_books_made_at_random(self):
        seen = 0
        for seed in range(300, 340):
            book = random_book(seed, 3)
            naive = Naive(book)
            if not naive.few(4, 300):
                continue
            for side in SIDES:
                words = words_of(book, side) + ["zz"]
                for text in itertools.chain(*[itertools.product(words, repeat=size) for size in (1, 2, 3)], naive.texts(side, 4)):
                    expected = naive.readings(side, text)
                    seen += len(expected)
                    self.assertEqual(readings(book, side, text), expected)
                    self.assertEqual(count_readings(book, side, text), len(expected))
        self.assertGreater(seen, 1000)

    def test_turned_books(self):
        for seed in range(40):
            book = random_book(seed)
            for text in itertools.product("abc", repeat=2):
                self.assertEqual(readings(book, "left", text), readings(turned(book), "right", text))

    def test_errors(self):
        arguments = [("book", E), ("side", "left"), ("text", EVERY)]
        self.refused(readings, arguments)
        self.refused(count_readings, arguments)
        with self.assertRaises(TooMany):
            readings(CATALAN, "left", ("a",) * 8)


class Holds(Case):
    def test_the_readings_of_the_text_and_of_no_other(self):
        for reading in EVERY_READINGS:
            arguments = [("book", E), ("side", "left"), ("text", EVERY), ("thing", reading)]
            self.answers(reading_holds, arguments, True)
            self.assertIs(reading_holds(E, "right", EVERY, reading), False)
            self.assertIs(reading_holds(E, "left", ("every", "cat", "is", "cat"), reading), False)
            self.assertIs(reading_holds(E, "left", EVERY[:3], reading), False)

    def test_however_many_there_are(self):
        tree = (2, (), ())
        for _ in range(7):
            tree = (0, (), (tree, (2, (), ())))
        self.assertIs(reading_holds(CATALAN, "left", ("a",) * 8, tree), True)
        self.assertIs(reading_holds(CATALAN, "left", ("a",) * 7, tree), False)
        self.assertIs(reading_holds(CATALAN, "left", ("a",) * 8, (2, (), ())), False)

    def test_what_is_no_reading(self):
        for thing in spoilt(EVERY_READINGS[0]) + strange_things() + [EVERY_READINGS, EVERY, E]:
            self.assertIs(reading_holds(E, "left", EVERY, thing), False)

    def test_a_part_is_not_the_whole(self):
        self.assertIs(reading_holds(E, "left", ("every", "cat"), (0, (), ((2, (), ()),))), False)
        self.assertIs(reading_holds(E, "left", ("cat",), (2, (), ())), False)

    def test_categories_of_the_holes(self):
        some = (8, (), ((1, ("many",), ((4, (), ()),)), (5, (), ())))
        text = ("some", "cats", "are", "black")
        self.assertIs(reading_holds(E, "left", text, some), True)
        for number, binding, noun, rule in [(1, ("one",), 4, 8), (1, ("one",), 2, 8), (1, ("many",), 4, 7)]:
            thing = (rule, (), ((number, binding, ((noun, (), ()),)), (5, (), ())))
            words = (("some", "cats" if noun == 4 else "cat", "is" if rule == 7 else "are", "black"))
            self.assertIs(reading_holds(E, "left", words, thing), False)
        # A value of another feature, a binding with the right side's variable, and children the other way round.
        self.assertIs(reading_holds(E, "left", text, (8, ("many",)) + some[2:]), False)
        self.assertIs(reading_holds(E, "left", text, (8, (), some[2][::-1])), False)

    def test_the_binding_is_that_of_one_side(self):
        text = ("sen", "un", "mir")
        reading = (7, ("one",), ((1, ("one",), ((2, (), ()),)), (5, (), ())))
        self.assertIs(reading_holds(E, "right", text, reading), True)
        self.assertIs(reading_holds(E, "right", text, (7, ()) + reading[2:]), False)
        self.assertIs(reading_holds(E, "right", text, (7, ("many",)) + reading[2:]), False)

    def test_very_many_nodes(self):
        self.assertIs(reading_holds(CATALAN, "left", ("a",) * 8, shared_tower((0, ()), (2, (), ()), 60)), False)
        with self.assertRaises(BadReading):
            read_by(CATALAN, "left", shared_tower((0, ()), (2, (), ()), 60))

    def test_errors(self):
        arguments = [("book", E), ("side", "left"), ("text", EVERY), ("thing", None)]
        self.refused(reading_holds, arguments)


class ReadBy(Case):
    def test_the_text_of_each_reading(self):
        for reading in EVERY_READINGS:
            self.answers(read_by, [("book", E), ("side", "left"), ("thing", reading)], EVERY)
        self.assertEqual(read_by(E, "right", (7, ("one",), ((1, ("one",), ((2, (), ()),)), (5, (), ())))), ("sen", "un", "mir"))
        self.assertEqual(read_by(ROUND, "left", (0, (), ((1, (), ((0, (), ((3, (), ()),) * 2), (4, (), ()))), (3, (), ())))),
                         ("b", "a", "a", "a"))

    def test_eight_words_and_nine(self):
        eight = (0, (), ((0, (), (SIX,)),))
        self.assertEqual(read_by(LONG, "left", eight), ("a",) * 8)
        for thing in ((0, (), (eight,)), (0, (), ((0, (), (eight,)),))):
            with self.assertRaises(BadReading):
                read_by(LONG, "left", thing)
        # On the right three words more come in with each rule.
        self.assertEqual(read_by(LONG, "right", eight), ("a",) * 7)
        with self.assertRaises(BadReading):
            read_by(LONG, "right", (0, (), (eight,)))

    def test_the_greatest_number_of_nodes(self):
        tree = (2, (), ())
        for _ in range(7):
            tree = (1, (), ((2, (), ()), tree))
        self.assertEqual(read_by(CATALAN, "left", tree), ("a",) * 8)
        with self.assertRaises(BadReading):
            read_by(CATALAN, "left", (1, (), (tree, (2, (), ()))))

    def test_of_the_start_sort_alone(self):
        for thing in ((2, (), ()), (0, (), ((2, (), ()),)), (5, (), ())):
            with self.assertRaises(BadReading):
                read_by(E, "left", thing)

    def test_errors(self):
        things = [EVERY] + spoilt(EVERY_READINGS[0]) + strange_things()
        self.refused(read_by, [("book", E), ("side", "left"), ("thing", EVERY_READINGS[0])], thing=(BadReading, things))


if __name__ == "__main__":
    unittest.main()
