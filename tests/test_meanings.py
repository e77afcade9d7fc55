import itertools
import random
import unittest

from pairedtongues.errors import BadCount, BadKind, BadNumber, BadReading, BadTerm, TooMany
from pairedtongues.meanings import book_keeps, doubtful, meaning, rule_keeps, sayings_of
from pairedtongues.pairs import texts_of
from pairedtongues.readings import readings
from pairedtongues.rows import read_book
from tests.cases import (
    CATALAN, FOUR, FOUR_RIGHT, Case, alike_five_hundred, bad_books, bad_numbers, five_hundred, plain_book, plain_rule, spoilt,
)
from tests.examples import BARE, E, H0, H1, strange_things
from tests.naive import SIDES, Naive
from tests.said import (
    BLACK, CAT, NONE, SOME, YES, bad_truths, denied, first_apart, random_meaning, telling_book, told, truthful, with_meanings,
)

EVERY = ("every", "cat", "is", "black")
EVERY_RIGHT = ("seni", "miro", "olu")
ALL = ("is", ("all", CAT), BLACK)
H2, H3 = ("hole", 2), ("hole", 3)
NO = ("is", ("some", NONE), NONE)

# The meanings of the two sides are unlike: holes in another sequence than the
# children, or left out; many nodes go into one text.
TALK = read_book("""\
marks black cat
sort s truth /
sort p part /
sort t set /
start s
rule deny s /
hole s /
left not 0
right 0 ne
leftmeans deny 0
rightmeans deny 0
rule second s /
hole s /
hole s /
left 0 1
right 1 0
leftmeans 1
rightmeans and 1 0
rule is s /
hole p /
hole t /
left 1 0
right 0 x 1
leftmeans is 0 1
rightmeans or is 0 1 is all none none
rule none p /
hole t /
left no 0
right y 0
leftmeans no 0
rightmeans all none
rule cat t /
left cat
right cat
leftmeans mark cat
rightmeans none
rule black t /
left black
right black
leftmeans mark black
rightmeans not mark black
rule yes s /
left yes
right yes
leftmeans is no none none
rightmeans is no none mark cat""")


def talk(number, *children):
    return (number, (), children)


class Meaning(Case):
    def means(self, book, side, reading, expected):
        self.answers(meaning, [("book", book), ("side", side), ("reading", reading)], expected)

    def test_the_example(self):
        self.means(E, "left", (7, (), ((0, (), ((2, (), ()),)), (5, (), ()))), ALL)

    def test_all_readings_of_the_example(self):
        for reading in readings(E, "left", EVERY) + readings(E, "left", ("some", "cats", "are", "black")):
            word = "all" if reading[2][0][0] == 0 else "some"
            self.means(E, "left", reading, ("is", (word, CAT), BLACK))
        for reading in readings(E, "right", EVERY_RIGHT):
            self.means(E, "right", reading, ALL)

    def test_unlike_meanings_of_the_sides(self):
        tree = talk(2, talk(3, talk(4)), talk(5))
        self.means(TALK, "left", tree, ("is", ("no", CAT), BLACK))
        self.means(TALK, "right", tree, ("or", ("is", ("all", NONE), ("not", BLACK)), ("is", ("all", NONE), NONE)))

    def test_holes_in_another_sequence_and_left_out(self):
        first, second = talk(0, talk(6)), talk(6)
        self.means(TALK, "left", talk(1, first, second), YES)
        self.means(TALK, "left", talk(1, second, first), ("deny", YES))
        right_yes = ("is", ("no", NONE), CAT)
        self.means(TALK, "right", talk(1, first, second), ("and", right_yes, ("deny", right_yes)))
        self.means(TALK, "right", talk(1, second, first), ("and", ("deny", right_yes), right_yes))

    def test_many_nodes(self):
        tree = talk(6)
        term = YES
        for _ in range(7):
            tree, term = talk(0, tree), ("deny", term)
        self.means(TALK, "left", tree, term)
        many = talk(6)
        right = ("is", ("no", NONE), CAT)
        term = right
        for _ in range(7):
            many, term = talk(1, many, talk(6)), ("and", right, term)
        self.means(TALK, "right", many, term)
        self.means(TALK, "left", many, YES)

    def test_start_sorts_of_other_kinds(self):
        self.means(BARE, "left", (0, (), ()), NONE)
        book = E[:3] + ("phrase",) + E[4:]
        self.means(book, "left", (1, ("one",), ((3, (), ()),)), ("some", CAT))

    def test_in_books_made_at_random(self):
        seen = 0
        for seed in range(40):
            book = telling_book(seed, 3)
            naive = Naive(book)
            if not naive.few(4, 100):
                continue
            for side, size in itertools.product(SIDES, (1, 2, 3, 4)):
                for _, tree in naive.whole((side,), (side,), (size,))[:20]:
                    self.means(book, side, tree, told(book, side, tree))
                    seen += 1
        self.assertGreater(seen, 200)

    def test_errors(self):
        reading = readings(E, "left", EVERY)[0]
        things = [EVERY, (2, (), ()), ALL] + spoilt(reading) + strange_things()
        self.refused(meaning, [("book", E), ("side", "left"), ("reading", reading)], reading=(BadReading, things))
        nine = talk(6)
        for _ in range(8):
            nine = talk(0, nine)
        for side in SIDES:
            with self.assertRaises(BadReading):
                meaning(TALK, side, nine)


def rule_book(head, holes, left, right, marks=("black", "cat")):
    """A book of one rule, with a head and holes of these kinds and these two meanings."""
    sorts = tuple((name, kind, (), ()) for name, kind in (("a", "set"), ("b", "part"), ("c", "truth")))
    names = {kind: (name, (), ()) for name, kind, _, _ in sorts}
    items = ("w",) + tuple(range(len(holes)))
    return ((), marks, sorts, "a", (("r", names[head], tuple(names[kind] for kind in holes), items, items[::-1], left, right),))


class Asked:
    """What the holes are in one world: it notes what is asked of them, and answers what it was given."""

    def __init__(self, row, answers):
        self.row = row
        self.answers = answers
        self.seen = []

    def ask(self, question):
        if question not in self.seen:
            self.seen.append(question)
        return self.answers.get(question, False)

    def set_of(self, term, marks):
        """The cells of a set term that have things."""
        if term[0] == "hole":
            return self.set_of(("mark", term[1]), marks)
        if term[0] == "none":
            return frozenset()
        full = frozenset(cell for cell, many in enumerate(self.row) if many)
        if term[0] == "mark":
            return frozenset(cell for cell in full if cell >> marks.index(term[1]) & 1)
        parts = [self.set_of(part, marks) for part in term[1:]]
        return {"not": lambda: full - parts[0], "both": lambda: parts[0] & parts[1], "either": lambda: parts[0] | parts[1]}[term[0]]()

    def holds(self, term, cells, marks):
        if term[0] == "hole":
            return self.ask((term[1], tuple(sorted(cells))))
        if term[0] in ("and", "or"):
            both = [self.holds(part, cells, marks) for part in term[1:]]
            return all(both) if term[0] == "and" else any(both)
        own = self.set_of(term[1], marks)
        many = sum(self.row[cell] for cell in own & cells)
        return {"all": own <= cells, "some": many > 0, "no": many == 0, "more": many > 1}[term[0]]

    def true(self, term, marks):
        if term[0] == "hole":
            return self.ask((term[1],))
        if term[0] == "is":
            return self.holds(term[1], self.set_of(term[2], marks), marks)
        parts = [self.true(part, marks) for part in term[1:]]
        return {"deny": not parts[0], "and": all(parts), "or": any(parts)}[term[0]]

    def worth(self, term, kind, marks):
        if kind == "set":
            return self.set_of(term, marks)
        return self.true(term, marks) if kind == "truth" else self.holds(term, self.set_of(("mark", "last"), marks), marks)


def names_in(term):
    return [term[1]] if term[0] == "mark" else [name for part in term[1:] if isinstance(part, tuple) for name in names_in(part)]


def plainly_kept(head, holes, left, right):
    """Whether the meanings are alike, None for too many marks: each world, with each answer to what is asked in it."""
    marks = tuple(sorted(set(names_in(left) + names_in(right)))) + tuple(at for at, kind in enumerate(holes) if kind == "set")
    marks += ("last",) if head == "part" else ()
    if len(marks) > 3:
        return None
    for row in itertools.product(range(3), repeat=2 ** len(marks)):
        first = Asked(row, {})
        for term in (left, right):
            first.worth(term, head, marks)
        for told_so in itertools.product((False, True), repeat=len(first.seen)):
            asked = Asked(row, dict(zip(first.seen, told_so)))
            if asked.worth(left, head, marks) != asked.worth(right, head, marks):
                return False
    return True


TRUTHS = [
    # No holes.
    ("", ALL, ALL, True), ("", SOME, ("is", ("some", BLACK), CAT), True), ("", ALL, SOME, False),
    ("", ALL, ("deny", ("is", ("some", CAT), ("not", BLACK))), True),
    # Unlike only where there are no cats, or only where two things are asked for.
    ("", ALL, ("and", ALL, ("is", ("some", CAT), CAT)), False),
    ("", ("is", ("more", CAT), BLACK), SOME, False),
    ("", ("is", ("more", CAT), BLACK), ("is", ("more", BLACK), CAT), True),
    ("", ("is", ("more", CAT), CAT), ("and", ("is", ("some", CAT), BLACK), ("is", ("some", CAT), ("not", BLACK))), False),
    ("", YES, ("is", ("all", NONE), CAT), True), ("", YES, NO, False),
    ("", ("is", ("some", ("not", NONE)), ("not", NONE)), YES, False),
    # Holes of the kind set.
    ("ss", ("is", ("all", H0), H1), ("is", ("all", H0), H1), True),
    ("ss", ("is", ("some", H0), H1), ("is", ("some", H1), H0), True),
    ("ss", ("is", ("all", H0), H1), ("is", ("all", H1), H0), False),
    ("ss", ("is", ("more", H0), H1), ("is", ("some", H0), H1), False),
    ("ss", ("is", ("more", H0), H1), ("is", ("more", H1), H0), True),
    ("ss", ("is", ("all", H0), H1), ("is", ("no", H0), ("not", H1)), True),
    ("ss", ("is", ("all", H0), H1), ("and", ("is", ("all", H0), H1), ("is", ("some", CAT), CAT)), False),
    ("ss", ("is", ("some", H0), CAT), ("is", ("some", H1), CAT), False),
    ("sss", ("is", ("all", ("both", H0, H1)), H2), ("is", ("no", ("both", H1, H0)), ("not", H2)), True),
    ("sss", ("is", ("all", ("both", H0, H1)), H2), ("is", ("all", H0), ("either", H2, ("not", H1))), True),
    ("sss", ("is", ("all", ("both", H0, H1)), H2), ("is", ("all", H0), ("both", H2, H1)), False),
    ("s", ("is", ("some", H0), H0), ("is", ("some", H0), ("not", NONE)), None),
    # Holes of the kind truth.
    ("tt", ("and", H0, H1), ("and", H1, H0), True), ("tt", ("or", H0, H1), ("and", H1, H0), False),
    ("tt", ("or", H0, H1), ("deny", ("and", ("deny", H0), ("deny", H1))), True), ("tt", H0, H1, False),
    ("tt", H1, ("deny", ("deny", H1)), True), ("tt", H0, ("or", H0, H1), False), ("t", H0, ("deny", H0), False),
    ("t", ("and", H0, NO), NO, True), ("t", ("or", H0, YES), YES, True), ("t", YES, YES, True),
    # Holes of the kind part.
    ("p", ("is", H0, CAT), ("is", H0, CAT), True), ("p", ("is", H0, CAT), ("is", H0, BLACK), False),
    ("p", ("is", H0, CAT), ("is", H0, ("both", CAT, CAT)), True), ("p", ("is", H0, CAT), ("is", H0, ("not", ("not", CAT))), True),
    ("p", ("is", H0, NONE), ("is", H0, ("both", CAT, ("not", CAT))), True), ("p", ("is", H0, NONE), ("is", H0, CAT), False),
    ("p", ("is", H0, ("either", CAT, BLACK)), ("is", H0, ("not", ("both", ("not", CAT), ("not", BLACK)))), True),
    ("p", ("is", H0, ("both", CAT, BLACK)), ("is", H0, CAT), False),
    ("p", ("and", ALL, ("is", H0, ("both", CAT, BLACK))), ("and", ALL, ("is", H0, CAT)), True),
    ("p", ("and", SOME, ("is", H0, ("both", CAT, BLACK))), ("and", SOME, ("is", H0, CAT)), False),
    ("p", ("and", ("is", H0, ("both", CAT, BLACK)), SOME), ("and", ("is", H0, CAT), SOME), False),
    ("p", ("and", ("is", H0, ("both", CAT, BLACK)), ALL), ("and", ("is", H0, CAT), ALL), True),
    ("p", ("or", ("is", H0, CAT), NO), ("or", ("is", H0, BLACK), NO), False),
    ("p", ("deny", ("is", H0, CAT)), ("deny", ("is", H0, BLACK)), False),
    ("p", ("deny", ("or", ("is", H0, CAT), NO)), ("deny", ("is", H0, BLACK)), False),
    ("tp", ("or", ("and", ("is", H1, CAT), H0), NO), ("and", H0, ("is", H1, BLACK)), False),
    ("p", ("deny", ("is", H0, CAT)), ("is", H0, ("not", CAT)), False), ("p", ("or", ("is", H0, CAT), YES), YES, True),
    ("p", ("is", H0, CAT), YES, False), ("p", YES, YES, True),
    ("p", ("and", ("is", H0, CAT), NO), ("and", ("is", H0, BLACK), NO), True),
    ("pp", ("is", ("and", H0, H1), CAT), ("and", ("is", H1, CAT), ("is", H0, CAT)), True),
    ("pp", ("is", ("and", H0, H1), CAT), ("and", ("is", H1, CAT), ("is", H0, BLACK)), False),
    ("pp", ("is", ("or", H0, H1), CAT), ("is", ("or", H1, ("or", H0, ("some", NONE))), CAT), True),
    ("pp", ("is", H0, CAT), ("is", H1, CAT), False),
    ("ps", ("is", H0, H1), ("is", H0, ("both", H1, H1)), None), ("ps", ("is", H0, H1), ("is", H0, ("not", ("not", H1))), True),
    ("ps", ("is", H0, H1), ("is", H0, CAT), False), ("ps", ("is", H0, ("both", H1, CAT)), ("is", H0, ("both", CAT, H1)), True),
    ("pst", ("and", H2, ("is", H0, H1)), ("and", ("is", H0, H1), H2), True), ("pst", ("and", H2, ("is", H0, H1)), ("is", H0, H1), False),
    ("ppsp", ("is", ("and", ("and", H0, H1), H3), H2), ("is", ("and", H3, ("and", H1, H0)), H2), True),
    ("ppsp", ("is", ("and", ("and", H0, H1), H3), H2), ("is", ("and", H3, ("or", H1, H0)), H2), False),
    ("pppp", ("and", ("is", ("and", H0, H1), CAT), ("is", ("and", H2, H3), BLACK)),
     ("and", ("is", ("and", H3, H2), BLACK), ("is", ("and", H1, H0), CAT)), True),
    ("pppp", ("and", ("is", ("and", H0, H1), CAT), ("is", ("and", H2, H3), BLACK)),
     ("and", ("is", ("and", H3, H0), BLACK), ("is", ("and", H1, H2), CAT)), False),
]
SETS = [
    ("", CAT, CAT, True), ("", CAT, BLACK, False), ("", NONE, ("both", CAT, ("not", CAT)), True), ("", ("not", NONE), NONE, False),
    ("s", ("both", H0, CAT), ("both", CAT, H0), True), ("s", H0, CAT, False), ("s", H0, ("not", ("not", H0)), True),
    ("s", ("both", H0, CAT), ("not", ("either", ("not", CAT), ("not", H0))), True), ("s", H0, ("either", H0, ("both", CAT, BLACK)), False),
    ("ss", ("both", H0, H1), ("both", H1, H0), True), ("ss", H0, H1, False), ("sss", ("both", H0, ("either", H1, H2)),
     ("both", ("either", H2, H1), H0), True), ("pt", CAT, CAT, True), ("pt", CAT, ("not", CAT), False),
]
PARTS = [
    ("", ("some", CAT), ("some", CAT), True), ("", ("some", CAT), ("or", ("some", CAT), ("more", CAT)), True),
    ("", ("more", CAT), ("and", ("some", CAT), ("more", CAT)), True), ("", ("some", CAT), ("more", CAT), False),
    ("", ("all", NONE), ("no", NONE), True), ("", ("all", CAT), ("all", ("both", CAT, BLACK)), False),
    ("", ("all", ("either", CAT, BLACK)), ("and", ("all", BLACK), ("all", CAT)), True), ("", ("all", CAT), ("no", CAT), False),
    ("s", ("some", H0), ("some", H0), True), ("s", ("all", H0), ("no", ("not", H0)), False),
    ("s", ("all", H0), ("and", ("all", ("both", H0, CAT)), ("all", NONE)), False),
    ("p", H0, ("and", H0, ("all", NONE)), True), ("p", H0, ("or", H0, ("some", NONE)), True), ("p", H0, ("some", CAT), False),
    ("pp", ("and", H0, H1), ("and", H1, H0), True), ("pp", H0, H1, False), ("pp", ("or", H0, H1), ("and", H0, H1), False),
    ("sp", ("and", H1, ("more", H0)), ("and", ("more", H0), ("and", ("some", NONE), H1)), False),
    ("sp", ("and", H1, ("more", H0)), ("and", ("more", H0), H1), True), ("t", ("some", CAT), ("some", CAT), True),
]
KINDS = {"s": "set", "p": "part", "t": "truth"}


class RuleKeeps(Case):
    def keeps(self, book, number, expected):
        self.answers(rule_keeps, [("book", book), ("number", number)], expected)

    def test_the_example(self):
        for number in range(9):
            self.keeps(E, number, True)

    def test_rules_of_all_kinds(self):
        for head, rows in (("truth", TRUTHS), ("set", SETS), ("part", PARTS)):
            for letters, left, right, expected in rows:
                holes = [KINDS[letter] for letter in letters]
                if expected is not None:
                    with self.subTest(head, holes=letters, left=left, right=right):
                        self.keeps(rule_book(head, holes, left, right), 0, expected)
                        self.keeps(rule_book(head, holes, right, left), 0, expected)
                        if len(holes) < 4 and "s" not in letters:
                            self.assertIs(plainly_kept(head, holes, left, right), expected)

    def test_the_rule_that_is_meant(self):
        rules = tuple((f"r{at}",) + rule_book("set", [], left, right)[4][0][1:] for at, (left, right) in enumerate([(CAT, CAT), (CAT, BLACK)]))
        book = rule_book("set", [], CAT, CAT)[:4] + (rules,)
        self.keeps(book, 0, True)
        self.keeps(book, 1, False)

    def test_unlike_only_where_nothing_has_two_of_the_marks(self):
        # The meanings part only in worlds in which all that is a cat is in hole 0.
        left = ("is", ("all", CAT), H0)
        self.keeps(rule_book("truth", ["set"], left, ("and", left, ("is", ("some", CAT), CAT))), 0, False)
        self.keeps(rule_book("truth", ["set"], left, ("and", left, ("is", ("all", CAT), ("not", NONE)))), 0, True)

    def test_equal_sets_by_what_there_is(self):
        # In worlds in which all cats are black both ask the hole of one set; in others each answer is free.
        asks = [("is", H0, CAT), ("is", H0, ("both", CAT, BLACK))]
        for guard, expected in ((ALL, True), (YES, False), (("is", ("no", CAT), CAT), True), (SOME, False)):
            left, right = [("and", guard, asked) for asked in asks]
            self.keeps(rule_book("truth", ["part"], left, right), 0, expected)

    def test_three_marks_and_four(self):
        both = ("is", ("all", CAT), BLACK)
        for head, meaning_of in (("truth", lambda term: ("is", ("all", term), term)), ("set", lambda term: term),
                                 ("part", lambda term: ("some", term))):
            further = 1 if head == "part" else 0
            for marks, holes in itertools.product(range(3), range(5)):
                term = {0: NONE, 1: CAT, 2: ("either", CAT, BLACK)}[marks]
                book = rule_book(head, ["set"] * holes, meaning_of(term), meaning_of(term))
                with self.subTest(head, marks=marks, holes=holes):
                    if marks + holes + further > 3:
                        with self.assertRaises(TooMany):
                            rule_keeps(book, 0)
                    else:
                        self.keeps(book, 0, True)
        # A mark of each side, and one that both have.
        self.keeps(rule_book("set", ["set"], CAT, BLACK), 0, False)
        self.keeps(rule_book("part", ["set"], ("some", CAT), ("some", CAT)), 0, True)
        with self.assertRaises(TooMany):
            rule_keeps(rule_book("part", ["set"], ("some", CAT), ("some", BLACK)), 0)
        with self.assertRaises(TooMany):
            rule_keeps(rule_book("truth", ["set", "set"], both, both), 0)
        for holes in (["part"] * 4, ["truth"] * 4, ["part", "truth", "truth", "set"]):
            self.keeps(rule_book("truth", holes, both, both), 0, True)

    def test_marks_that_could_be_called_like_holes(self):
        for names in (("h0", "last"), ("hole", "mark")):
            term = ("is", ("some", ("mark", names[0])), H0)
            self.keeps(rule_book("truth", ["set"], term, term, names), 0, True)
            self.keeps(rule_book("truth", ["set"], term, ("is", ("some", ("mark", names[1])), H0), names), 0, False)

    def test_meanings_made_at_random(self):
        dice = random.Random(31)
        seen = {True: 0, False: 0, None: 0}
        for _ in range(700):
            head = dice.choice(("set", "part", "truth"))
            holes = [dice.choice(("set", "part", "truth")) for _ in range(dice.randint(0, 3))]
            marks = ("black", "cat")[:dice.choice((1, 2))]
            left = random_meaning(dice, head, marks, holes)
            right = left if dice.random() < 0.15 else random_meaning(dice, head, marks, holes)
            looked_at = len(set(names_in(left) + names_in(right))) + holes.count("set") + (head == "part")
            if looked_at == 3 and dice.random() < 0.8:
                continue
            expected = plainly_kept(head, holes, left, right)
            book = rule_book(head, holes, left, right, marks)
            seen[expected] += 1
            if expected is None:
                with self.assertRaises(TooMany):
                    rule_keeps(book, 0)
            else:
                self.assertIs(rule_keeps(book, 0), expected, (head, holes, left, right))
        self.assertGreater(min(seen.values()), 20)

    def test_errors(self):
        self.refused(rule_keeps, [("book", E), ("number", 2)], number=(BadNumber, bad_numbers()))
        four = rule_book("truth", ["set"] * 4, YES, YES)
        for number in (1, -1, True, None):
            with self.assertRaises(BadNumber):
                rule_keeps(four, number)


def pair_key(pair):
    return (len(pair[0]) + len(pair[1]), pair)


# Its pairs by the number of words of both together, the first pair whose paper parts being not the first one in any
# other sequence: (d) and (b, b, b) have four words, (b) and (z, z) three, (a, a) and (a) three as well.
SEQUENCE = plain_book(
    plain_rule("one", "s", "", ("d",), ("b", "b", "b")), plain_rule("two", "s", "", ("b",), ("z", "z")),
    plain_rule("three", "s", "", ("b", "a"), ("a",)), plain_rule("four", "s", "", ("c",), ("c",)),
)


class BookKeeps(Case):
    def keeps(self, book, count, expected):
        self.answers(book_keeps, [("book", book), ("count", count)], expected)

    def test_of_E(self):
        for count in range(1, 9):
            self.keeps(E, count, None)

    def test_one_rule_that_does_not_keep(self):
        rules = E[4][:1] + (E[4][1][:5] + (("some", H0), ("more", H0)),) + E[4][2:]
        book = E[:4] + (rules,)
        self.keeps(book, 8, (("some", "cat", "is", "black"), ("sen", "un", "mir"), (0, 0, 0, 1)))
        self.keeps(book, 4, (("some", "cat", "is", "black"), ("sen", "un", "mir"), (0, 0, 0, 1)))
        self.keeps(book, 3, None)
        rules = E[4][:6] + (E[4][6][:5] + (BLACK, CAT),) + E[4][7:]
        self.keeps(E[:4] + (rules,), 8, (("every", "cat", "is", "black"), ("seni", "miro", "olu"), (0, 0, 1, 0)))

    def test_rules_that_do_not_keep_where_the_pairs_do(self):
        # What the second hole means on the right is never asked.
        book = plain_book(plain_rule("top", "s", "ss", (0, 1), (0, 1)), plain_rule("a", "s", "", ("a",), ("a",)))
        book = with_meanings(book, top=(H0, ("and", H0, H1)))
        self.assertIs(rule_keeps(book, 0), False)
        self.keeps(book, 7, None)

    def test_the_first_pair(self):
        apart = (YES, NO)
        zero = (0, 0, 0, 0)
        self.keeps(with_meanings(SEQUENCE), 8, None)
        self.keeps(with_meanings(SEQUENCE, one=apart, two=apart, three=apart, four=apart), 8, (("c",), ("c",), zero))
        self.keeps(with_meanings(SEQUENCE, one=apart, two=apart, three=apart), 8, (("b",), ("z", "z"), zero))
        self.keeps(with_meanings(SEQUENCE, one=apart, two=apart, three=apart), 1, None)
        self.keeps(with_meanings(SEQUENCE, one=apart, three=apart), 8, (("b", "a"), ("a",), zero))
        self.keeps(with_meanings(SEQUENCE, one=apart), 8, (("d",), ("b", "b", "b"), zero))
        self.keeps(with_meanings(SEQUENCE, one=apart), 3, (("d",), ("b", "b", "b"), zero))
        self.keeps(with_meanings(SEQUENCE, one=apart), 2, None)

    def test_the_first_paper(self):
        book = plain_book(*[plain_rule(f"r{at}", "s", "", ("a",), ("a",)) for at in range(3)])
        cats, more = ("is", ("some", CAT), CAT), ("is", ("more", BLACK), BLACK)
        self.keeps(with_meanings(book, r1=(cats, NO), r2=(YES, NO)), 1, (("a",), ("a",), (0, 0, 0, 1)))
        self.keeps(with_meanings(book, r1=(more, NO), r2=(cats, NO)), 1, (("a",), ("a",), (0, 0, 0, 2)))
        self.keeps(with_meanings(book, r2=(("and", more, cats), SOME)), 1, (("a",), ("a",), (0, 0, 0, 1)))

    def test_five_hundred_papers(self):
        for book in (five_hundred(False), alike_five_hundred(False)):
            for count in (4, 8):
                self.keeps(truthful(book), count, None)
        for further in (five_hundred(True), alike_five_hundred(True)):
            for meant in (truthful(further), with_meanings(further, top=(YES, NO))):
                with self.assertRaises(TooMany):
                    book_keeps(meant, 4)
                self.keeps(meant, 3, None)
        found = book_keeps(with_meanings(five_hundred(False), top=(YES, NO)), 4)
        self.assertEqual(found, (FOUR, ("z0", "x0", "w0", "y0"), (0, 0, 0, 0)))
        with self.assertRaises(TooMany):
            book_keeps(truthful(CATALAN), 8)

    def test_in_books_made_at_random(self):
        seen = {True: 0, False: 0}
        for seed in range(100, 180):
            book = telling_book(seed)
            naive = Naive(book)
            if not naive.few(4, 60):
                continue
            for count in (2, 4):
                pairs = set().union(*[naive.pairs(*sizes) for sizes in itertools.product(range(1, count + 1), repeat=2)])
                found = [(*pair, world) for pair in sorted(pairs, key=pair_key) for tree in naive.papers(*pair)
                         for world in [first_apart(book[1], told(book, "left", tree), told(book, "right", tree))] if world is not None]
                expected = found[0] if found else None
                self.keeps(book, count, expected)
                seen[expected is None] += 1
                if all(rule_keeps_if_it_can(book, number) for number in range(len(book[4]))):
                    # If every rule keeps meaning, every pair does.
                    self.assertIsNone(expected)
        self.assertGreater(min(seen.values()), 10)

    def test_errors(self):
        self.refused(book_keeps, [("book", E), ("count", 2)])
        for start in ("phrase", "noun", "quality"):
            book = E[:3] + (start,) + E[4:]
            for count in (2, 0, True, None):
                with self.assertRaises(BadKind):
                    book_keeps(book, count)
        with self.assertRaises(BadKind):
            book_keeps(CATALAN, 8)
        with self.assertRaises(BadCount):
            book_keeps(truthful(CATALAN), 9)


def rule_keeps_if_it_can(book, number):
    """Whether the rule keeps meaning, False where that is too much to see."""
    try:
        return rule_keeps(book, number)
    except TooMany:
        return False


class Doubtful(Case):
    def doubts(self, book, side, text, expected):
        self.answers(doubtful, [("book", book), ("side", side), ("text", text)], expected)

    def test_of_E(self):
        for side, text in (("left", EVERY), ("left", ("some", "cat", "is", "black")), ("right", EVERY_RIGHT),
                           ("right", ("sen", "un", "miro")), ("left", ("cat",)), ("left", ("zz",) * 8)):
            self.doubts(E, side, text, None)

    def test_none_one_and_several_readings(self):
        self.doubts(TALK, "left", ("zz",), None)
        self.doubts(TALK, "left", ("yes",), None)
        self.doubts(TALK, "left", ("yes", "yes", "yes"), None)
        self.assertEqual(len(readings(TALK, "left", ("yes", "yes", "yes"))), 2)
        # Not (yes, yes), or (not yes), yes: on the left the last one alone is meant.
        text = ("not", "yes", "yes")
        first, second = readings(TALK, "left", text)
        self.doubts(TALK, "left", text, (first, second, (0, 0, 0, 0)))
        self.assertEqual((meaning(TALK, "left", first), meaning(TALK, "left", second)), (("deny", YES), YES))

    def test_the_first_two_readings_and_the_least_world(self):
        book = plain_book(*[plain_rule(f"r{at}", "s", "", ("a",), ("a",)) for at in range(4)])
        cats, more = ("is", ("some", CAT), CAT), ("is", ("more", CAT), CAT)
        a = ("a",)
        trees = [(at, (), ()) for at in range(4)]
        self.doubts(with_meanings(book), "left", a, None)
        self.doubts(with_meanings(book, r0=(cats, NO), r1=(cats, NO), r2=(more, NO)), "left", a, (trees[0], trees[2], (0, 0, 0, 1)))
        self.doubts(with_meanings(book, r0=(cats, NO), r1=(cats, NO), r2=(more, NO)), "right", a, (trees[0], trees[3], (0, 0, 0, 0)))
        self.doubts(with_meanings(book, r1=(NO, YES), r2=(NO, YES)), "left", a, (trees[0], trees[1], (0, 0, 0, 0)))
        self.doubts(with_meanings(book, r3=(("deny", ("and", cats, more)), YES)), "left", a, (trees[0], trees[3], (0, 0, 0, 2)))
        self.doubts(with_meanings(book, r3=(("deny", NO), YES)), "left", a, None)

    def test_five_hundred_readings(self):
        self.doubts(truthful(five_hundred(False)), "left", FOUR, None)
        self.doubts(truthful(alike_five_hundred(False)), "right", FOUR_RIGHT, None)
        apart = with_meanings(five_hundred(True), more=(NO, YES))
        for book in (truthful(five_hundred(True)), apart):
            with self.assertRaises(TooMany):
                doubtful(book, "left", FOUR)
            self.doubts(book, "right", ("z0", "x0", "w0", "y0"), None)

    def test_in_books_made_at_random(self):
        seen = {True: 0, False: 0}
        for seed in range(200, 260):
            book = telling_book(seed)
            naive = Naive(book)
            if not naive.few(4, 80):
                continue
            for side in SIDES:
                for text in sorted(set().union(*[naive.texts(side, size) for size in range(1, 5)]))[:25]:
                    trees = naive.readings(side, text)
                    found = [(one, two, world) for one, two in itertools.combinations(trees, 2)
                             for world in [first_apart(book[1], told(book, side, one), told(book, side, two))] if world is not None]
                    self.doubts(book, side, text, found[0] if found else None)
                    seen[not found] += 1
        self.assertGreater(min(seen.values()), 10)

    def test_errors(self):
        self.refused(doubtful, [("book", E), ("side", "left"), ("text", EVERY)])
        for side, text in (("left", EVERY), ("middle", EVERY), ("left", ())):
            with self.assertRaises(BadKind):
                doubtful(E[:3] + ("noun",) + E[4:], side, text)


class SayingsOf(Case):
    def says(self, book, side, term, count, expected):
        self.answers(sayings_of, [("book", book), ("side", side), ("term", term), ("count", count)], expected)

    def test_of_E(self):
        every, some = [EVERY], [("some", "cat", "is", "black"), ("some", "cats", "are", "black")]
        right_some = [("sen", "un", "mir"), ("sen", "un", "miro"), ("seni", "un", "mir"), ("seni", "un", "miro")]
        right_some = [text for text in right_some if readings(E, "right", text)]
        for term in (ALL, ("deny", ("is", ("some", CAT), ("not", BLACK))), ("is", ("no", ("not", BLACK)), CAT),
                     ("and", ALL, ("or", ALL, SOME))):
            self.says(E, "left", term, 8, every)
            self.says(E, "left", term, 4, every)
            self.says(E, "left", term, 3, [])
            self.says(E, "right", term, 3, [EVERY_RIGHT])
        for term in (SOME, ("is", ("some", BLACK), CAT), ("deny", ("deny", SOME))):
            self.says(E, "left", term, 8, some)
            self.says(E, "right", term, 8, right_some)
            self.says(E, "right", term, 2, [])
        for term in (YES, NO, ("is", ("all", BLACK), CAT), denied(80)):
            self.says(E, "left", term, 8, [])

    def test_shortest_first_and_any_of_the_readings(self):
        self.says(TALK, "left", YES, 1, [("yes",)])
        self.says(TALK, "left", YES, 2, [("yes",), ("yes", "yes")])
        self.says(TALK, "left", ("is", ("all", NONE), BLACK), 3, [
            ("yes",), ("yes", "yes"), ("not", "not", "yes"), ("not", "yes", "yes"), ("yes", "yes", "yes"),
        ])
        self.says(TALK, "left", NO, 3, [("not", "yes"), ("not", "yes", "yes"), ("yes", "not", "yes")])

    def test_bound(self):
        self.says(truthful(five_hundred(False)), "left", YES, 8, [FOUR])
        self.says(truthful(five_hundred(False)), "left", NO, 8, [])
        self.says(truthful(five_hundred(False)), "right", YES, 8, texts_of(five_hundred(False), "right", 8))
        for term in (YES, NO):
            with self.assertRaises(TooMany):
                sayings_of(truthful(five_hundred(True)), "left", term, 4)
            self.says(truthful(five_hundred(True)), "left", term, 3, [])

    def test_in_books_made_at_random(self):
        seen = 0
        for seed in range(300, 350):
            book = telling_book(seed)
            naive = Naive(book)
            if not naive.few(4, 60):
                continue
            for side in SIDES:
                trees = [(texts[0], told(book, side, tree)) for size in range(1, 5) for texts, tree in naive.whole((side,), (side,), (size,))]
                for _, term in trees[:6]:
                    expected = {text for text, other in trees if first_apart(book[1], term, other) is None}
                    self.says(book, side, term, 4, sorted(expected, key=lambda text: (len(text), text)))
                    seen += len(expected)
        self.assertGreater(seen, 100)

    def test_errors(self):
        arguments = [("book", E), ("side", "left"), ("term", SOME), ("count", 4)]
        self.refused(sayings_of, arguments, term=(BadTerm, bad_truths()))
        for side, term, count in (("left", SOME, 4), ("x", SOME, 4), ("left", CAT, 4), ("left", SOME, 0)):
            with self.assertRaises(BadKind):
                sayings_of(E[:3] + ("phrase",) + E[4:], side, term, count)
        for book in bad_books():
            with self.assertRaises(Exception) as caught:
                sayings_of(book, "x", None, 0)
            self.assertEqual(type(caught.exception).__name__, "BadBook")


if __name__ == "__main__":
    unittest.main()
