import itertools
import random
import unittest

from pairedtongues.books import is_book
from pairedtongues.errors import BadCount, BadExamples, BadNumbers, BadPaper, TooMany
from pairedtongues.learning import (
    branching_holds, branching_paper, fewest_rules, first_unfit, fits, open_rules, part_book, parting_pair, rules_of, sure_rules,
)
from pairedtongues.pairs import count_papers, is_pair, pairs_of, papers
from tests.cases import (
    CATALAN, FOUR, FOUR_RIGHT, Case, alike_five_hundred, bad_texts, five_hundred, plain_book, plain_rule, spoilt,
)
from tests.examples import BARE, E, Nasty, all_paths, deep_tuple, entry_at, exchanged, strange_things
from tests.naive import Naive, random_book
from tests.test_rounds import words_book

EVERY = (("every", "cat", "is", "black"), ("seni", "miro", "olu"))
SOME_ONE = (("some", "cat", "is", "black"), ("sen", "un", "mir"))
SOME_MANY = (("some", "cats", "are", "black"), ("seni", "un", "miro"))
NO_PAIR = (("some", "cat", "is", "black"), ("seni", "un", "miro"))
PAPER = (7, ("many",), ((0, (), ((3, (), ()),)), (6, (), ())))
AX, BY = (("a",), ("x",)), (("b",), ("y",))


def bad_numbers(least):
    """No numbers of rules of E."""
    found = [(1, 0), (0, 0), (0, 1, 1), (3, 2, 1), (9,), (-1,), (0, 9), (24,), (10 ** 59,), (True,), (False,), (False, 1), (0, True), [0], [],
             (0, [1]), (0, "1"), ("0",), (None,), ((0,),), "0", 0, 1, None, True, {}, {0: 1}, b"0", Nasty(), (Nasty(),), (0, Nasty()),
             tuple(range(10)), deep_tuple(100), range(2)]
    return found + [()] * least


def bad_examples():
    """No examples."""
    found = [(), (EVERY,) * 6, [EVERY], [], list(EVERY), EVERY, (list(EVERY),), (EVERY, list(EVERY)), (EVERY, None), (EVERY + EVERY,), (EVERY + EVERY[:1],), (EVERY, EVERY[:1] + EVERY),
             (EVERY[:1],), ((),), ((EVERY,),), None, 0, True, "", {}, Nasty(), (Nasty(),), (EVERY, Nasty()), deep_tuple(100), ((0, 1),)]
    for bad in bad_texts():
        found.extend([((bad, EVERY[1]),), (EVERY, (EVERY[0], bad))])
    return found


def sized_book(sizes, further):
    """A book in which (a, a, a, a) and (b, b, b, b) have as many papers as the product, and one more if it is further."""
    rules = [plain_rule("top", "s", "wxyz", (0, 1, 2, 3), (3, 1, 0, 2))]
    for sort, many in zip("wxyz", sizes):
        rules.extend([plain_rule(f"{sort}{at}", sort, "", ("a",), ("b",)) for at in range(many)])
    if further:
        rules.append(plain_rule("more", "s", "", FOUR, FOUR_RIGHT))
    return plain_book(*rules, sorts="swxyz")


TWO_HUNDRED = sized_book((5, 5, 4, 2), False)
TWO_HUNDRED_AND_ONE = sized_book((5, 5, 4, 2), True)
FOURS = ((FOUR, FOUR_RIGHT),)


def ways_book(*counts):
    """A book and for each count an example with so many papers, each with other rules."""
    rules = [plain_rule(f"w{at}", "w", "", ("a",), ("b",)) for at in range(7)]
    for at, count in enumerate(counts):
        key = f"k{at}"
        rules.extend([plain_rule(f"t{at}n{number}", "s", "w", (key, 0), (0, key)) for number in range(count // 7)])
        rules.extend([plain_rule(f"d{at}n{number}", "s", "", (key, "a"), ("b", key)) for number in range(count % 7)])
    return (plain_book(*rules, sorts="sw"), tuple(((f"k{at}", "a"), ("b", f"k{at}")) for at in range(len(counts))))


def all_numbers(book):
    many = len(book[4])
    return [numbers for size in range(many + 1) for numbers in itertools.combinations(range(many), size)]


def plainly_fits(book, numbers, examples):
    if not numbers:
        return False
    part = book[:4] + (tuple(book[4][number] for number in numbers),)
    return all(is_pair(part, *example) for example in examples)


def numbers_of(paper):
    return {paper[0]}.union(*[numbers_of(child) for child in paper[2]])


def plain_rows(book, examples):
    """For each example the unlike numbers of its papers, ascending."""
    return [sorted({tuple(sorted(numbers_of(paper))) for paper in papers(book, *example)}) for example in examples]


def plain_branching(rows, count, chosen=frozenset()):
    """The branching paper with the least indexes of what is not a pair yet; the text `done` where all are."""
    open_ones = [at for at, row in enumerate(rows) if not any(set(numbers) <= chosen for numbers in row)]
    if not open_ones:
        return "done"
    branches = []
    for numbers in rows[open_ones[0]]:
        further = chosen | set(numbers)
        branches.append((numbers, None if len(further) >= count else plain_branching(rows, count, further)))
    return (open_ones[0], tuple(branches))


def has_done(thing):
    return thing == "done" or isinstance(thing, tuple) and any(has_done(part) for part in thing)


def plainly_holds(rows, count, thing, chosen=frozenset()):
    """Whether it is a branching paper, if it is built of tuples, integers and Nones alone."""
    if not isinstance(thing, tuple) or len(thing) != 2 or type(thing[0]) is not int or thing[0] not in range(len(rows)):
        return False
    index, branches = thing
    if not isinstance(branches, tuple) or not all(isinstance(branch, tuple) and len(branch) == 2 for branch in branches):
        return False
    if repr([branch[0] for branch in branches]) != repr(rows[index]):
        return False
    for numbers, paper in branches:
        further = chosen | set(numbers)
        if (paper is None) != (len(further) >= count):
            return False
        if paper is not None and not plainly_holds(rows, count, paper, further):
            return False
    return True


def some_branching(dice, rows, count, chosen=frozenset(), steps=0):
    """A branching paper with indexes by chance, also of examples that are pairs already; None where there is none."""
    index = dice.randrange(len(rows))
    if steps > 3:
        open_ones = [at for at, row in enumerate(rows) if not any(set(numbers) <= chosen for numbers in row)]
        if not open_ones:
            return None
        index = open_ones[0]
    branches = []
    for numbers in rows[index]:
        further = chosen | set(numbers)
        paper = None
        if len(further) < count:
            paper = some_branching(dice, rows, count, further, steps + 1)
            if paper is None:
                return None
        branches.append((numbers, paper))
    return (index, tuple(branches))


class PartBook(Case):
    def test_parts_of_E(self):
        for numbers in [(0,), (8,), (0, 8), (1, 2, 5, 7), tuple(range(9))]:
            self.answers(part_book, [("book", E), ("numbers", numbers)], E[:4] + (tuple(E[4][number] for number in numbers),))
        self.assertEqual(part_book(E, tuple(range(9))), E)
        self.answers(part_book, [("book", BARE), ("numbers", (0,))], BARE)

    def test_each_part_is_a_book(self):
        for numbers in all_numbers(E)[1::7]:
            self.assertTrue(is_book(part_book(E, numbers)))

    def test_errors(self):
        self.refused(part_book, [("book", E), ("numbers", (0, 3))], numbers=(BadNumbers, bad_numbers(1)))
        with self.assertRaises(BadNumbers):
            part_book(BARE, (1,))


class Fits(Case):
    def fit(self, book, numbers, examples, expected):
        arguments = [("book", book), ("numbers", numbers), ("examples", examples)]
        self.answers(first_unfit, arguments, expected)
        self.answers(fits, arguments, expected is None)

    def test_of_E(self):
        self.fit(E, (0, 3, 6, 7), (EVERY,), None)
        self.fit(E, tuple(range(9)), (EVERY, SOME_ONE, SOME_MANY, EVERY, EVERY), None)
        self.fit(E, tuple(range(9)), (EVERY, NO_PAIR, SOME_MANY), 1)
        self.fit(E, (0, 3, 6, 7), (EVERY, SOME_ONE), 1)
        self.fit(E, (0, 1, 2, 3, 5, 6, 7), (EVERY, SOME_ONE, SOME_MANY, NO_PAIR), 2)
        self.fit(E, (0, 1, 2, 3, 5, 6, 7), (SOME_ONE, EVERY), None)
        for left_out in (0, 3, 6, 7):
            self.fit(E, tuple(number for number in range(9) if number != left_out), (EVERY,), 0)

    def test_without_numbers_nothing_is_a_pair(self):
        self.fit(E, (), (EVERY,), 0)
        self.fit(BARE, (), ((("a",), ("a",)),), 0)

    def test_the_same_example_twice(self):
        self.fit(E, (0, 3, 6, 7), (EVERY,) * 5, None)
        self.fit(E, (0, 3, 6, 7), (EVERY, NO_PAIR, NO_PAIR, EVERY, NO_PAIR), 1)

    def test_words_that_are_not_in_the_book(self):
        self.fit(E, (0, 3, 6, 7), ((("zz",), ("zz",)),), 0)

    def test_no_bound(self):
        eight = (("a",) * 8, ("b",) * 8)
        self.assertEqual(count_papers(CATALAN, *eight), 54912)
        self.fit(CATALAN, (0, 1, 2), (eight, eight), None)
        self.fit(CATALAN, (1, 2), (eight,), None)
        self.fit(CATALAN, (0, 1), (eight,), 0)
        self.fit(alike_five_hundred(True), tuple(range(21)), FOURS * 5, None)

    def test_in_books_made_at_random(self):
        seen = {True: 0, False: 0}
        for book, examples in random_examples(4000, 40):
            for numbers in random.Random(7).sample(all_numbers(book), 12):
                wrong = [at for at, example in enumerate(examples) if not plainly_fits(book, numbers, (example,))]
                self.fit(book, numbers, examples, wrong[0] if wrong else None)
                seen[not wrong] += 1
        self.assertGreater(min(seen.values()), 20)

    def test_errors(self):
        arguments = [("book", E), ("numbers", (0, 3)), ("examples", (EVERY, NO_PAIR))]
        for function in (fits, first_unfit):
            self.refused(function, arguments, numbers=(BadNumbers, bad_numbers(0)), examples=(BadExamples, bad_examples()))


def random_examples(first, many):
    """Small books with one to three examples, most of them pairs."""
    found = []
    for seed in range(first, first + many * 4):
        dice = random.Random(seed)
        book = random_book(seed)
        naive = Naive(book)
        if len(found) == many or not naive.few(3, 60):
            continue
        pairs = sorted(set().union(*[naive.pairs(*sizes) for sizes in itertools.product(range(1, 4), repeat=2)]))
        if pairs:
            rows = [dice.choice(pairs) for _ in range(dice.randint(1, 3))]
            if dice.random() < 0.15:
                rows.append((rows[0][0], ("zz",)))
            found.append((book, tuple(rows)))
    return found


class RulesOf(Case):
    def test_each_rule_once(self):
        self.answers(rules_of, [("book", E), ("thing", PAPER)], (0, 3, 6, 7))
        for pair, expected in ((SOME_ONE, (1, 2, 5, 7)), (SOME_MANY, (1, 4, 6, 8))):
            self.answers(rules_of, [("book", E), ("thing", papers(E, *pair)[0])], expected)
        tree = (2, (), ())
        self.answers(rules_of, [("book", CATALAN), ("thing", tree)], (2,))
        self.answers(rules_of, [("book", CATALAN), ("thing", (0, (), (tree, tree)))], (0, 2))
        self.answers(rules_of, [("book", CATALAN), ("thing", (1, (), ((1, (), (tree, tree)), tree)))], (1, 2))
        self.answers(rules_of, [("book", CATALAN), ("thing", (1, (), ((0, (), (tree, tree)), tree)))], (0, 1, 2))

    def test_errors(self):
        things = [EVERY, (3, (), ())] + spoilt(PAPER) + strange_things()
        self.refused(rules_of, [("book", E), ("thing", PAPER)], thing=(BadPaper, things))
        nine = (2, (), ())
        for _ in range(8):
            nine = (0, (), (nine, (2, (), ())))
        with self.assertRaises(BadPaper):
            rules_of(CATALAN, nine)


class FewestRules(Case):
    def fewest(self, book, examples, expected):
        self.answers(fewest_rules, [("book", book), ("examples", examples)], expected)

    def test_of_E(self):
        self.fewest(E, (EVERY,), (0, 3, 6, 7))
        self.fewest(E, (SOME_ONE,), (1, 2, 5, 7))
        self.fewest(E, (EVERY, SOME_ONE), (0, 1, 2, 3, 5, 6, 7))
        self.fewest(E, (EVERY, SOME_ONE, SOME_MANY, EVERY, SOME_ONE), (0, 1, 2, 3, 4, 5, 6, 7, 8))
        self.fewest(E, (NO_PAIR,), None)
        self.fewest(E, (EVERY, NO_PAIR), None)
        self.fewest(E, (NO_PAIR, EVERY), None)

    def test_a_rule_that_stands_in_a_paper_twice(self):
        for size, expected in ((1, (2,)), (2, (0, 2)), (4, (0, 2))):
            self.fewest(CATALAN, ((("a",) * size, ("b",) * size),), expected)

    def test_fewer_ahead_of_lesser(self):
        # Rule 0 needs 1 for the first example; rule 3 makes both of it and of the second one with rule 2.
        book = plain_book(plain_rule("pair", "s", "t", ("a", 0), (0, "x")), plain_rule("t", "t", "", ("b",), ("y",)),
                          plain_rule("whole", "s", "", ("a", "b"), ("y", "x")), sorts="st")
        self.fewest(book, ((("a", "b"), ("y", "x")),), (2,))
        book = plain_book(*[plain_rule(f"r{at}", "s", "", ("a",), ("x",)) for at in range(3)])
        self.fewest(book, (AX,), (0,))
        # Two rules either way: as tuples compare.
        book = plain_book(plain_rule("r0", "s", "t", (0, "a"), (0, "x")), plain_rule("r1", "s", "u", (0, "a"), (0, "x")),
                          plain_rule("r2", "u", "", ("b",), ("y",)), plain_rule("r3", "t", "", ("b",), ("y",)), sorts="stu")
        self.fewest(book, ((("b", "a"), ("y", "x")),), (0, 3))

    def test_what_one_example_needs_serves_the_other_one(self):
        # Alone the first example would take rule 0; the second one needs rule 1, which makes the first one, too.
        book = plain_book(plain_rule("r0", "s", "", ("a",), ("x",)), plain_rule("r1", "s", "t", ("a", 0), ("x", 0)),
                          plain_rule("r2", "t", "", ("b",), ("y",)), plain_rule("r3", "s", "", ("a", "b"), ("x", "y")), sorts="st")
        self.fewest(book, ((("a", "b"), ("x", "y")),), (3,))
        further = book[:4] + (book[4] + (plain_rule("r4", "s", "", ("c",), ("y",)), plain_rule("r5", "t", "", ("c",), ("y",))),)
        self.fewest(further, ((("a", "b"), ("x", "y")), (("a", "c"), ("x", "y"))), (1, 2, 5))

    def test_two_hundred_papers(self):
        self.fewest(TWO_HUNDRED, FOURS, (0, 1, 6, 11, 15))
        self.assertEqual(count_papers(TWO_HUNDRED_AND_ONE, *FOURS[0]), 201)
        for examples in (FOURS, ((FOUR, ("zz",)),) + FOURS, FOURS + ((FOUR, ("zz",)),)):
            for function in (fewest_rules, open_rules):
                with self.assertRaises(TooMany):
                    function(TWO_HUNDRED_AND_ONE, examples)
        self.fewest(TWO_HUNDRED_AND_ONE, ((FOUR, ("zz",)),), None)
        # Papers count, not unlike tuples: five a's have 224 papers, which give three of them.
        self.assertEqual(count_papers(CATALAN, ("a",) * 5, ("b",) * 5), 224)
        with self.assertRaises(TooMany):
            fewest_rules(CATALAN, ((("a",) * 5, ("b",) * 5),))
        self.fewest(CATALAN, ((("a",) * 4, ("b",) * 4),) * 5, (0, 2))

    def test_two_thousand_ways(self):
        book, (one, two) = ways_book(20, 5)
        self.assertEqual([count_papers(book, *example) for example in (one, two)], [20, 5])
        self.fewest(book, (one, one, two), (9, 15))
        self.fewest(book, (one, two, one, (("zz",), ("zz",))), None)
        book, examples = ways_book(29, 23, 3)
        self.assertEqual([count_papers(book, *example) for example in examples], [29, 23, 3])
        for rows in (examples, examples[::-1], examples + ((("zz",), ("zz",)),)):
            for function in (fewest_rules, open_rules):
                with self.assertRaises(TooMany):
                    function(book, rows)
        self.fewest(book, examples[:2], (11, 15))
        with self.assertRaises(TooMany):
            fewest_rules(TWO_HUNDRED, FOURS * 2)

    def test_in_books_made_at_random(self):
        seen = {True: 0, False: 0}
        for book, examples in random_examples(4100, 50):
            found = [numbers for numbers in all_numbers(book) if plainly_fits(book, numbers, examples)]
            self.fewest(book, examples, min(found, key=lambda numbers: (len(numbers), numbers), default=None))
            seen[not found] += 1
        self.assertGreater(min(seen.values()), 3)

    def test_errors(self):
        for function in (fewest_rules, sure_rules, open_rules):
            self.refused(function, [("book", E), ("examples", (EVERY,))], examples=(BadExamples, bad_examples()))


class SureAndOpenRules(Case):
    def rules(self, book, examples, sure, open_ones):
        arguments = [("book", book), ("examples", examples)]
        self.answers(sure_rules, arguments, sure)
        self.answers(open_rules, arguments, open_ones)

    def test_of_E(self):
        self.rules(E, (EVERY,), (0, 3, 6, 7), ())
        self.rules(E, (EVERY, SOME_MANY), (0, 1, 3, 4, 6, 7, 8), ())
        self.rules(E, (NO_PAIR,), None, None)
        self.rules(E, (EVERY, NO_PAIR), None, None)

    def test_none_sure(self):
        self.rules(words_book(("a", "x"), ("a", "x"), ("b", "y")), (AX,), (), (0, 1))
        self.rules(words_book(("a", "x"), ("a", "x"), ("b", "y")), (AX, BY), (2,), (0, 1))
        self.rules(words_book(("a", "x"), ("a", "x"), ("b", "y")), (AX, BY, AX, AX, BY), (2,), (0, 1))
        self.rules(CATALAN, ((("a", "a"), ("b", "b")),), (2,), (0, 1))
        self.rules(CATALAN, ((("a",), ("b",)),), (2,), ())

    def test_rules_that_can_be_left_out_always_are_not_open(self):
        # The second paper of the one example needs all that the first one needs, and more.
        book = plain_book(plain_rule("r0", "s", "t", (0, "a"), (0, "x")), plain_rule("r1", "t", "u", ("c", 0), (0,) + ("z",)),
                          plain_rule("r2", "u", "", ("b",), ("y",)), plain_rule("r3", "t", "", ("c", "b"), ("y", "z")), sorts="stu")
        self.rules(book, ((("c", "b", "a"), ("y", "z", "x")),), (0,), (1, 2, 3))
        # Of three a's the papers by both turns need more than those by one of them; so does what has both.
        self.rules(CATALAN, ((("a",) * 3, ("b",) * 3),), (2,), (0, 1))
        # Rule 3 makes (k, a) alone, rules 0 and 2 make it, too; where (a) is an example, rule 0 is needed anyway.
        book = words_book(("a", "x"), ("b", "y"))
        one = plain_rule("both", "s", "s", ("k", 0), (0, "k"))
        book = book[:4] + (book[4] + (one, plain_rule("ka", "s", "", ("k", "a"), ("x", "k"))),)
        self.rules(book, (AX, (("k", "a"), ("x", "k"))), (0,), (2, 3))
        self.rules(book, ((("k", "a"), ("x", "k")),), (), (0, 2, 3))
        self.rules(book, ((("k", "k", "a"), ("x", "k", "k")),), (2,), (0, 3))

    def test_bounds(self):
        self.answers(open_rules, [("book", TWO_HUNDRED), ("examples", FOURS)], tuple(range(1, 17)))
        for book in (TWO_HUNDRED, TWO_HUNDRED_AND_ONE):
            expected = (0,) if book == TWO_HUNDRED else ()
            self.answers(sure_rules, [("book", book), ("examples", FOURS * 3)], expected)
        eight = ((("a",) * 8, ("b",) * 8),)
        self.answers(sure_rules, [("book", CATALAN), ("examples", eight)], (2,))
        with self.assertRaises(TooMany):
            open_rules(CATALAN, eight)
        book, examples = ways_book(29, 23, 3)
        self.answers(sure_rules, [("book", book), ("examples", examples)], ())
        book, (one, two) = ways_book(20, 5)
        self.answers(open_rules, [("book", book), ("examples", (one, one, two))], tuple(range(len(book[4]))))

    def test_in_books_made_at_random(self):
        seen = {None: 0, (): 0, "more": 0}
        for book, examples in random_examples(4200, 50):
            found = [set(numbers) for numbers in all_numbers(book) if plainly_fits(book, numbers, examples)]
            least = [numbers for numbers in found if not any(other < numbers for other in found)]
            sure = tuple(sorted(set.intersection(*found))) if found else None
            open_ones = tuple(sorted(set.union(*least) - set.intersection(*least))) if found else None
            self.rules(book, examples, sure, open_ones)
            seen[open_ones if not open_ones else "more"] += 1
        self.assertGreater(min(seen.values()), 3)


class BranchingPaper(Case):
    def branches(self, book, examples, count, expected):
        self.answers(branching_paper, [("book", book), ("examples", examples), ("count", count)], expected)
        if expected is not None:
            self.answers(branching_holds, [("book", book), ("examples", examples), ("count", count), ("thing", expected)], True)

    def test_of_E(self):
        needed = (0, 3, 6, 7)
        for count in range(1, 26):
            self.branches(E, (EVERY,), count, (0, ((needed, None),)) if count <= 4 else None)
        second = (1, 2, 5, 7)
        for count in range(1, 26):
            if count <= 4:
                expected = (0, ((needed, None),))
            else:
                expected = (0, ((needed, (1, ((second, None),))),)) if count <= 7 else None
            self.branches(E, (EVERY, SOME_ONE), count, expected)

    def test_an_example_without_papers(self):
        for count in (1, 5, 24, 25):
            self.branches(E, (NO_PAIR,), count, (0, ()))
            self.branches(E, (NO_PAIR, EVERY), count, (0, ()))
            below = None if count <= 4 else (1, ())
            self.branches(E, (EVERY, NO_PAIR), count, (0, (((0, 3, 6, 7), below),)))

    def test_the_least_index_of_what_is_no_pair_yet(self):
        # The second example is a pair with what the first one needs.
        examples = ((("a", "a"), ("b", "b")), (("a",), ("b",)), (("zz",), ("zz",)))
        expected = (0, (((0, 2), (2, ())), ((1, 2), (2, ()))))
        self.branches(CATALAN, examples, 25, expected)
        self.branches(CATALAN, examples[:2], 2, (0, (((0, 2), None), ((1, 2), None))))
        self.branches(CATALAN, examples[:2], 3, None)
        self.branches(CATALAN, examples[1::-1], 2, (0, (((2,), (1, (((0, 2), None), ((1, 2), None)))),)))
        self.branches(CATALAN, (examples[1],) * 5, 1, (0, (((2,), None),)))
        self.branches(CATALAN, (examples[1],) * 5, 2, None)

    def test_some_of_the_branches_go_on(self):
        book = plain_book(plain_rule("pair", "s", "t", ("a", 0), (0, "x")), plain_rule("t", "t", "", ("b",), ("y",)),
                          plain_rule("whole", "s", "", ("a", "b"), ("y", "x")), plain_rule("b", "s", "", ("b",), ("y",)), sorts="st")
        examples = ((("a", "b"), ("y", "x")), BY)
        self.branches(book, examples, 2, (0, (((0, 1), None), ((2,), (1, (((3,), None),))))))
        self.branches(book, examples, 1, (0, (((0, 1), None), ((2,), None))))
        self.branches(book, examples, 3, None)

    def test_bounds(self):
        found = branching_paper(TWO_HUNDRED, FOURS, 5)
        self.assertEqual((found[0], len(found[1]), {paper for _, paper in found[1]}), (0, 200, {None}))
        self.answers(branching_paper, [("book", TWO_HUNDRED), ("examples", FOURS), ("count", 6)], None)
        book, (one, two) = ways_book(20, 5)
        self.branches(book, (one, one, two), 1, (0, tuple((numbers, None) for numbers in plain_rows(book, (one,))[0])))
        self.branches(book, (one, two, one), 2, plain_branching(plain_rows(book, (one, two)), 2))
        self.branches(book, (one, two, one), 3, None)
        too_many = [(TWO_HUNDRED_AND_ONE, FOURS), (TWO_HUNDRED_AND_ONE, ((FOUR, ("zz",)),) + FOURS), (TWO_HUNDRED, FOURS * 2), ways_book(29, 23, 3)]
        for book, examples in too_many:
            for count in (1, 2, 25):
                with self.assertRaises(TooMany):
                    branching_paper(book, examples, count)
                for thing in (None, (0, ()), 5):
                    with self.assertRaises(TooMany):
                        branching_holds(book, examples, count, thing)

    def test_in_books_made_at_random(self):
        dice = random.Random(51)
        seen = {"none": 0, "deep": 0, "other": 0, "spoilt": 0, "fine": 0}
        for book, examples in random_examples(4300, 50):
            rows = plain_rows(book, examples)
            for count in (1, 2, 3, 4, 5, 7, 25):
                expected = plain_branching(rows, count)
                expected = None if has_done(expected) else expected
                self.branches(book, examples, count, expected)
                seen["none" if expected is None else "deep" if any(branch[1] for branch in expected[1]) else "fine"] += 1
                other = some_branching(dice, rows, count)
                if other is not None and len(repr(other)) < 20000:
                    self.assertTrue(plainly_holds(rows, count, other))
                    self.assertIs(branching_holds(book, examples, count, other), True)
                    seen["other"] += other != expected
                    for thing in dice.sample(nearly(other), min(25, len(nearly(other)))):
                        holds = plainly_holds(rows, count, thing)
                        self.assertIs(branching_holds(book, examples, count, thing), holds, thing)
                        seen["spoilt"] += not holds
        self.assertGreater(min(seen.values()), 10)

    def test_errors(self):
        counts = [0, 26, -1, 10 ** 59, True, False, None, "1", (1,), [1], b"1", Nasty()]
        arguments = [("book", E), ("examples", (EVERY,)), ("count", 25)]
        self.refused(branching_paper, arguments, examples=(BadExamples, bad_examples()), count=(BadCount, counts))
        arguments.append(("thing", (0, ())))
        self.refused(branching_holds, arguments, examples=(BadExamples, bad_examples()), count=(BadCount, counts))


def nearly(paper):
    """Things that are nearly the branching paper."""
    found = []
    for path in all_paths(paper):
        part = entry_at(paper, path)
        found.extend([exchanged(paper, path, thing) for thing in (None, (), 0, 1, 2, (0, ()), (1, ()), ((0,), None))])
        if isinstance(part, tuple):
            found.extend([exchanged(paper, path, thing) for thing in (part[:-1], part[1:], part[::-1], part + part[-1:], part + (7,))])
    return found


class BranchingHolds(Case):
    EXAMPLES = ((("a", "a"), ("b", "b")), (("zz",), ("zz",)), (("a",), ("b",)))

    def holds(self, thing, count, expected):
        arguments = [("book", CATALAN), ("examples", self.EXAMPLES), ("count", count), ("thing", thing)]
        self.assertIs(branching_holds(**dict(arguments)), expected)

    def test_any_indexes(self):
        self.holds((1, ()), 25, True)
        self.holds((1, ()), 1, True)
        self.holds((0, (((0, 2), None), ((1, 2), None))), 2, True)
        self.holds((2, (((2,), None),)), 1, True)
        self.holds((2, (((2,), (1, ())),)), 2, True)
        # The example is a pair already, and stands there once more.
        self.holds((2, (((2,), (2, (((2,), (1, ())),))),)), 25, True)
        self.holds((2, (((2,), (0, (((0, 2), None), ((1, 2), None)))),)), 2, True)
        self.holds((0, (((0, 2), (0, (((0, 2), (1, ())), ((1, 2), None)))), ((1, 2), (1, ())))), 3, True)

    def test_none_and_papers_in_one_anothers_place(self):
        self.holds((0, (((0, 2), None), ((1, 2), None))), 3, False)
        self.holds((0, (((0, 2), None), ((1, 2), (1, ())))), 2, False)
        self.holds((0, (((0, 2), (1, ())), ((1, 2), (1, ())))), 2, False)
        self.holds((0, (((0, 2), (1, ())), ((1, 2), (1, ())))), 3, True)
        self.holds((2, (((2,), (1, ())),)), 1, False)
        self.holds((2, (((2,), None),)), 2, False)

    def test_branches_that_lack_or_stand_otherwise(self):
        one, two = ((0, 2), None), ((1, 2), None)
        for branches in [(), (one,), (two,), (two, one), (one, one), (one, two, two), (one, one, two), [one, two], (list(one), two),
                         (one, ((1, 2),)), (one, ((1, 2), None, None)), (one, ((2, 1), None)), (one, ((1,), None)), (one, ((0, 1, 2), None)),
                         (one, ([1, 2], None)), (one, ((True, 2), None)), (((False, 2), None), two), (one, ((1, "2"), None)), (one, None),
                         (one, ((1, 2), False)), (one, ((1, 2), ())), (one, ((1, 2), 0)), (one, ((1, Nasty()), None)),
                         (one, (Nasty(), None)), (one, ((1, 2), Nasty())), (one, Nasty()), Nasty(), None, "", 0, {}]:
            self.holds((0, branches), 2, False)
        self.holds((0, (one, two)), 2, True)
        self.holds((1, (one, two)), 2, False)
        self.holds((2, (one, two)), 2, False)

    def test_indexes_that_are_none(self):
        for index in (-1, 3, 10 ** 59, True, False, None, "1", 1.5, (1,), [1], Nasty()):
            self.holds((index, ()), 25, False)
        for thing in ((1,), (1, (), ()), [1, ()], (1, []), (1, None), (1, "")):
            self.holds(thing, 25, False)

    def test_any_object(self):
        for thing in strange_things() + [1, (1, 2), "one", deep_tuple(190), E, CATALAN]:
            for count in (1, 25):
                self.holds(thing, count, False)

    def test_deep_ones(self):
        thing = (1, ())
        for _ in range(60):
            thing = (2, (((2,), thing),))
        self.holds(thing, 25, True)
        self.holds(thing, 1, False)
        thing = (1, [])
        for _ in range(60):
            thing = (2, (((2,), thing),))
        self.holds(thing, 25, False)


def pair_key(pair):
    return (len(pair[0]) + len(pair[1]), pair)


def pairs_up_to(book, count):
    return {pair for sizes in itertools.product(range(1, count + 1), repeat=2) for pair in pairs_of(book, *sizes)}


class PartingPair(Case):
    def parts(self, book, numbers, others, count, expected):
        for first, second in ((numbers, others), (others, numbers)):
            self.answers(parting_pair, [("book", book), ("numbers", first), ("others", second), ("count", count)], expected)

    def test_of_E(self):
        everything = tuple(range(9))
        self.parts(E, everything, everything, 8, None)
        self.parts(E, everything, (0, 3, 6, 7), 8, SOME_ONE)
        self.parts(E, everything, (1, 2, 3, 4, 5, 6, 7, 8), 8, EVERY)
        self.parts(E, everything, (1, 2, 3, 4, 5, 6, 7, 8), 3, None)
        self.parts(E, (0, 3, 6, 7), (1, 4, 6, 8), 4, EVERY)
        self.parts(E, (0,), (1,), 8, None)

    def test_no_numbers(self):
        self.parts(E, (), (), 8, None)
        self.parts(E, (), (0, 1), 8, None)
        self.parts(E, (), tuple(range(9)), 8, EVERY)
        self.parts(E, (), tuple(range(9)), 3, None)
        self.parts(BARE, (), (0,), 1, (("a",), ("a",)))

    def test_the_first_pair_of_either(self):
        book = words_book(("a", "x x x"), ("b b", "x"), ("b", "y y"), ("c c", "z"), ("a", "z"))
        self.parts(book, (0,), (1, 3), 8, (("b", "b"), ("x",)))
        self.parts(book, (0,), (1, 2), 8, (("b",), ("y", "y")))
        self.parts(book, (0, 4), (1, 2), 8, (("a",), ("z",)))
        self.parts(book, (0, 4), (1, 4), 8, (("b", "b"), ("x",)))
        self.parts(book, (0, 4), (4,), 8, (("a",), ("x", "x", "x")))
        self.parts(book, (0, 4), (4,), 2, None)
        self.parts(book, (0, 1), (0, 1), 8, None)

    def test_bounds(self):
        book = five_hundred(True)
        first = tuple(range(len(book[4]) - 1))
        everything = first + (len(first),)
        self.parts(book, first, (), 8, (FOUR, ("z0", "x0", "w0", "y0")))
        self.parts(book, first, first, 8, None)
        for numbers, others in ((everything, first), (first, everything), (everything, ()), ((), everything), (everything, everything)):
            with self.assertRaises(TooMany):
                parting_pair(book, numbers, others, 4)
            self.parts(book, numbers, others, 3, None)
        with self.assertRaises(TooMany):
            parting_pair(alike_five_hundred(True), everything, everything, 4)

    def test_in_books_made_at_random(self):
        dice = random.Random(52)
        seen = {True: 0, False: 0}
        for book, _ in random_examples(4400, 40):
            for _ in range(4):
                numbers, others = dice.sample(all_numbers(book), 2)
                sets = [pairs_up_to(part_book(book, rules), 3) if rules else set() for rules in (numbers, others)]
                expected = min(sets[0] ^ sets[1], key=pair_key, default=None)
                self.parts(book, numbers, others, 3, expected)
                seen[expected is None] += 1
        self.assertGreater(min(seen.values()), 20)

    def test_errors(self):
        arguments = [("book", E), ("numbers", (0, 3)), ("others", (1, 2)), ("count", 2)]
        self.refused(parting_pair, arguments, numbers=(BadNumbers, bad_numbers(0)), others=(BadNumbers, bad_numbers(0)))


if __name__ == "__main__":
    unittest.main()
