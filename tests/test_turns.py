import itertools
import random
import unittest

from pairedtongues.books import is_book
from pairedtongues.errors import BadNumber, BadOrder, TooMany
from pairedtongues.pairs import count_papers, pairs_of
from pairedtongues.rows import read_book
from pairedtongues.turns import bar_of, inversions, order_of, split_book, split_holds, split_tree
from tests.cases import Case, bad_numbers, kinds, plain_book, plain_rule, spoilt
from tests.examples import BARE, E, GREAT, LEANING_TEXT, Nasty, strange_things
from tests.naive import SIDES, Naive, random_book

PATTERNS = ((1, 3, 0, 2), (2, 0, 3, 1))


def all_orders(most):
    return [order for many in range(1, most + 1) for order in itertools.permutations(range(many))]


def some_orders(many, number, seed):
    dice = random.Random(seed)
    return [tuple(dice.sample(range(many), many)) for _ in range(number)]


def separable_order(dice, many):
    """An order that has a tree, made along one."""
    if many == 1:
        return [0]
    first = dice.randint(1, many - 1)
    low, high = separable_order(dice, first), separable_order(dice, many - first)
    if dice.random() < 0.5:
        return low + [number + first for number in high]
    return [number + many - first for number in low] + high


def bad_orders():
    return [(), (1,), (0, 0), (0, 2), (1, 2), (0, 1, 3), (-1, 0), tuple(range(9)), [0], [0, 1], (True, 0), (0, True), (False,),
            ("0",), "0", 0, None, (0, None), ((0,),), (0, "1"), b"\x00", Nasty(), (Nasty(),), {0: 0}, 10 ** 59, range(2)]


def consecutive(numbers):
    return sorted(numbers) == list(range(min(numbers), max(numbers) + 1))


def all_trees(order, begin, end):
    """All trees of the places, by trying each cut and each word."""
    if end - begin == 1:
        return [begin]
    found = []
    for cut in range(begin + 1, end):
        first, second = order[begin:cut], order[cut:end]
        if not consecutive(first) or not consecutive(second) or not consecutive(first + second):
            continue
        word = "keep" if max(first) < min(second) else "turn"
        found.extend((word, low, high) for low in all_trees(order, begin, cut) for high in all_trees(order, cut, end))
    return found


def places(tree):
    return [tree] if isinstance(tree, int) else places(tree[1]) + places(tree[2])


def sizes(tree):
    """The number of places of the first tree, from the outermost on."""
    return [] if isinstance(tree, int) else [len(places(tree[1]))] + sizes(tree[1]) + sizes(tree[2])


class OrderOf(Case):
    def ordered(self, book, number, expected):
        self.answers(order_of, [("book", book), ("number", number)], expected)

    def test_of_E(self):
        for number in range(9):
            self.ordered(E, number, (1, 0) if number >= 7 else (0,) if number <= 1 else ())
        self.ordered(BARE, 0, ())

    def test_of_other_rules(self):
        # Left 3 1 0 2 and right 0 2 1 3.
        self.ordered(GREAT, 23, (3, 2, 0, 1))
        self.ordered(read_book(LEANING_TEXT), 0, (1, 0))
        rule = plain_rule("r", "s", "sss", (2, "a", 0, 1), ("b", 0, 1, 2, "b"))
        self.ordered(plain_book(rule), 0, (2, 0, 1))
        self.ordered(plain_book(rule[:3] + (rule[4], rule[3]) + rule[5:]), 0, (1, 2, 0))

    def test_all_orders_of_four_holes(self):
        for left, right in itertools.product(itertools.permutations(range(4)), repeat=2):
            book = plain_book(plain_rule("r", "s", "ssss", left, right))
            self.assertEqual(order_of(book, 0), tuple(right.index(hole) for hole in left))

    def test_errors(self):
        self.refused(order_of, [("book", E), ("number", 7)], number=(BadNumber, bad_numbers()))


class Inversions(Case):
    def test_the_example(self):
        self.answers(inversions, [("order", (1, 3, 0, 2))], 3)

    def test_all_orders(self):
        for order in all_orders(5) + some_orders(8, 50, 1):
            expected = sum(first > second for first, second in itertools.combinations(order, 2))
            self.answers(inversions, [("order", order)], expected)
        self.assertEqual(inversions(tuple(range(8))), 0)
        self.assertEqual(inversions(tuple(range(8))[::-1]), 28)

    def test_bad_order(self):
        for function in (inversions, split_tree, bar_of):
            self.refused(function, [("order", (0, 1))], order=(BadOrder, bad_orders()))
            for thing in strange_things():
                with self.assertRaises(BadOrder):
                    function(thing)


class SplitTree(Case):
    def tree(self, order, expected):
        self.answers(split_tree, [("order", order)], expected)

    def test_the_examples(self):
        self.tree((1, 0, 2), ("keep", ("turn", 0, 1), 2))
        self.tree((1, 3, 0, 2), None)

    def test_first_trees_are_small(self):
        self.tree((0,), 0)
        self.tree((0, 1), ("keep", 0, 1))
        self.tree((1, 0), ("turn", 0, 1))
        self.tree((0, 1, 2), ("keep", 0, ("keep", 1, 2)))
        self.tree((2, 1, 0), ("turn", 0, ("turn", 1, 2)))
        self.tree((0, 2, 1), ("keep", 0, ("turn", 1, 2)))
        self.tree((2, 0, 1), ("turn", 0, ("keep", 1, 2)))
        self.tree((1, 2, 0), ("turn", ("keep", 0, 1), 2))
        self.tree((1, 0, 3, 2), ("keep", ("turn", 0, 1), ("turn", 2, 3)))
        self.tree((2, 3, 0, 1), ("turn", ("keep", 0, 1), ("keep", 2, 3)))
        self.tree(tuple(range(8))[::-1], ("turn", 0, ("turn", 1, ("turn", 2, ("turn", 3, ("turn", 4, ("turn", 5, ("turn", 6, 7))))))))

    def test_no_tree(self):
        self.tree((2, 0, 3, 1), None)
        self.tree((0, 2, 4, 1, 3), None)
        self.tree((2, 4, 1, 3, 0), None)
        self.tree((7, 1, 3, 0, 2, 4, 5, 6), None)

    def test_all_orders(self):
        dice = random.Random(3)
        made = [tuple(separable_order(dice, 8)) for _ in range(25)]
        for order in all_orders(4) + some_orders(5, 40, 2) + some_orders(8, 25, 3) + made:
            trees = all_trees(order, 0, len(order))
            self.tree(order, min(trees, key=sizes) if trees else None)
            self.assertIs(split_tree(order) is None, bar_of(order) is not None)
            if trees:
                self.assertIs(split_holds(order, split_tree(order)), True)
        for order in made:
            self.assertIsNotNone(split_tree(order))

    def test_none_exactly_where_there_is_a_bar(self):
        for order in all_orders(6) + some_orders(7, 100, 4) + some_orders(8, 100, 5):
            self.assertIs(split_tree(order) is None, bar_of(order) is not None)


class SplitHolds(Case):
    def holds(self, order, thing, expected):
        self.answers(split_holds, [("order", order), ("thing", thing)], expected)

    def test_all_trees_of_an_order(self):
        for order in all_orders(4) + some_orders(5, 30, 6):
            trees = all_trees(order, 0, len(order))
            for tree in trees:
                self.holds(order, tree, True)
            for other in all_orders(len(order)):
                for tree in all_trees(other, 0, len(other))[:3] if len(other) <= 4 else []:
                    self.assertIs(split_holds(order, tree), tree in trees)

    def test_other_trees_of_the_same_order(self):
        self.holds((0, 1, 2), ("keep", ("keep", 0, 1), 2), True)
        self.holds((2, 1, 0), ("turn", ("turn", 0, 1), 2), True)
        self.holds((0, 1, 2, 3), ("keep", ("keep", 0, 1), ("keep", 2, 3)), True)
        self.holds((0, 1, 2, 3), ("keep", ("keep", ("keep", 0, 1), 2), 3), True)
        self.holds(tuple(range(8)), ("keep", ("keep", ("keep", 0, 1), ("keep", 2, 3)), ("keep", ("keep", 4, 5), ("keep", 6, 7))), True)

    def test_what_is_no_tree_of_it(self):
        for thing in [("turn", ("turn", 0, 1), 2), ("keep", ("keep", 0, 1), 2), ("keep", 2, ("turn", 0, 1)), ("keep", ("turn", 1, 0), 2),
                      ("keep", 0, ("turn", 1, 2)), ("keep", ("turn", 0, 1)), ("turn", 0, 1), 0, 2, ("keep", 0, 1, 2), (0, 1, 2),
                      ("keep", ("turn", 0, 1), 3), ("keep", ("turn", 0, 1), ("keep", 2, 3)), ("keep", ("turn", 0, 2), 1),
                      ("Keep", ("turn", 0, 1), 2), ("", ("turn", 0, 1), 2), (("turn", 0, 1), "keep", 2)]:
            self.holds((1, 0, 2), thing, False)
        self.holds((0,), 0, True)
        for thing in (1, -1, True, False, (0,), ("keep", 0, 0), ("keep", 0, 1), "0", None):
            self.holds((0,), thing, False)

    def test_each_part_is_consecutive(self):
        # Each cut that keeps or turns what it parts would do, were it not for the gaps within the parts.
        for thing in [("keep", ("keep", 0, 1), ("keep", 2, 3)), ("turn", ("keep", 0, 1), ("keep", 2, 3)),
                      ("keep", 0, ("keep", 1, ("keep", 2, 3))), ("turn", ("turn", ("keep", 0, 1), 2), 3)]:
            for order in PATTERNS:
                self.holds(order, thing, False)
        self.holds((0, 2, 1, 3), ("keep", ("keep", 0, 1), ("keep", 2, 3)), False)
        self.holds((0, 2, 1, 3), ("keep", 0, ("keep", ("turn", 1, 2), 3)), True)

    def test_spoilt_trees_and_any_object(self):
        order = (1, 0, 2, 3)
        tree = ("keep", ("turn", 0, 1), ("keep", 2, 3))
        self.holds(order, tree, True)
        for thing in spoilt(tree) + strange_things():
            self.assertIs(split_holds(order, thing), False)
        for swapped in [("turn", ("turn", 0, 1), ("keep", 2, 3)), ("keep", ("keep", 0, 1), ("keep", 2, 3))]:
            self.assertIs(split_holds(order, swapped), False)

    def test_deep_things(self):
        for part in (0, 1):
            thing = 0
            for _ in range(150):
                thing = ("keep", thing, 1) if part == 0 else ("keep", 0, thing)
            self.assertIs(split_holds((0, 1), thing), False)
        thing = 0
        for _ in range(150):
            thing = ("keep", thing, thing)
        self.assertIs(split_holds((0, 1), thing), False)

    def test_errors(self):
        self.refused(split_holds, [("order", (0, 1)), ("thing", None)], order=(BadOrder, bad_orders()))


class BarOf(Case):
    def bar(self, order, expected):
        self.answers(bar_of, [("order", order)], expected)

    def test_the_example(self):
        self.bar((1, 3, 0, 2), (0, 1, 2, 3))
        self.bar((2, 0, 3, 1), (0, 1, 2, 3))
        self.bar((1, 0, 2), None)

    def test_all_orders(self):
        for order in all_orders(5) + some_orders(6, 60, 7) + some_orders(7, 60, 8) + some_orders(8, 60, 9):
            found = [four for four in itertools.combinations(range(len(order)), 4)
                     if tuple(sorted(order[at] for at in four).index(order[at]) for at in four) in PATTERNS]
            self.bar(order, min(found) if found else None)

    def test_the_first_one(self):
        self.bar((0, 2, 4, 1, 3), (1, 2, 3, 4))
        self.bar((1, 3, 5, 0, 2, 4), (0, 1, 3, 4))


class SplitBook(Case):
    def check_split(self, book, further):
        """The split book is one, says nothing, and has rules of two holes wherever an order has a tree."""
        found = split_book(book)
        self.assertIs(is_book(found), True)
        self.assertEqual(split_book(book=book), found)
        self.assertEqual(kinds(split_book(read_again(book))), kinds(found))
        self.assertEqual(split_book(read_again(book)), found)
        self.assertEqual(len(found[4]), len(book[4]) + further)
        self.assertEqual(len(found[2]), len(book[2]) + further)
        for sort in found[2]:
            self.assertEqual(sort[1], "set")
        for number, rule in enumerate(found[4]):
            self.assertEqual(rule[5:], (("none",), ("none",)))
            order = order_of(found, number)
            self.assertTrue(len(order) <= 2 or split_tree(order) is None, rule)
        return found

    def same_papers(self, book, found, most):
        """Every two texts of at most so many words have as many papers."""
        first, second = Naive(book), Naive(found)
        made = 0
        for size in itertools.product(range(1, most + 1), repeat=2):
            papers = sorted(texts for texts, _ in first.whole(SIDES, SIDES, size))
            self.assertEqual(sorted(texts for texts, _ in second.whole(SIDES, SIDES, size)), papers)
            made += len(papers)
        return made

    def test_of_E(self):
        found = self.check_split(E, 0)
        self.assertEqual([rule[:5] for rule in found[4]], [rule[:5] for rule in E[4]])
        self.assertEqual(found[0], E[0])
        self.assertEqual(found[3], E[3])
        self.assertEqual(pairs_of(found, 4, 3), pairs_of(E, 4, 3))

    def test_all_orders_of_four_holes(self):
        words = [plain_rule(name, name, "", (name,), (name + "0",)) for name in "wxyz"]
        more = [plain_rule("w2", "w", "", ("w", "w"), ("v",)), plain_rule("y2", "y", "", ("y",), ("y9", "y9"))]
        for right in itertools.permutations(range(4)):
            for left in ((0, 1, 2, 3), (2, 0, 3, 1)):
                rule = plain_rule("top", "s", "wxyz", left, right)
                book = plain_book(rule, *words, *more, sorts="swxyz")
                tree = split_tree(order_of(book, 0))
                found = self.check_split(book, 0 if tree is None else 2)
                self.assertEqual(self.same_papers(book, found, 6), 2 * 2)

    def test_words_between_the_holes(self):
        rules = [plain_rule("x", "t", "", ("x",), ("x",)), plain_rule("y", "t", "", ("y",), ("z",))]
        for left, right in [(("a", 0, "b", 1, "c", 2), (2, "d", 1, 0, "e", "f")), ((1, "a", 0, 2, "b"), ("c", 0, "d", 1, "e", 2)),
                            ((0, 1, 2), ("a", 0, "b", 1, "c", 2)), (("a", "b", 2, 0, "c", 1), (1, "d", 2, "e", 0))]:
            book = plain_book(plain_rule("top", "s", "ttt", left, right), *rules, sorts="st")
            found = self.check_split(book, 1)
            self.assertEqual(self.same_papers(book, found, 8), 8)

    def test_holes_that_have_to_agree(self):
        none = ("none",)
        features = (("f", ("p", "q")), ("g", ("m", "n", "o")))
        sorts = (("s", "truth", ("f",), ()), ("t", "part", ("f",), ("g",)), ("u", "set", ("f", "f"), ("f",)))
        rules = [
            ("a", ("t", ("A",), ("B",)), (), ("a",), ("a",), none, none), ("b", ("t", ("p",), ("B",)), (), ("b",), ("b",), none, none),
            ("c", ("u", ("A", "C"), ("C",)), (), ("c",), ("c",), none, none), ("d", ("u", ("p", "A"), ("q",)), (), ("d",), ("d",), none, none),
        ]
        heads = [("s", ("A",), ()), ("s", ("q",), ())]
        holes = [
            [("t", ("A",), ("B",)), ("t", ("A",), ("B",)), ("u", ("A", "C"), ("C",))],
            [("t", ("A",), ("B",)), ("u", ("C", "A"), ("q",)), ("t", ("p",), ("B",)), ("t", ("C",), ("m",))],
            [("t", ("p",), ("B",)), ("t", ("q",), ("D",)), ("u", ("A", "p"), ("A",))],
        ]
        seen = 0
        for head in heads:
            for row in holes:
                for right in itertools.permutations(range(len(row))):
                    meaning = ("is", ("some", none), none)
                    rule = ("top", head, tuple(row), tuple(range(len(row))), right, meaning, meaning)
                    said = [entry[:5] + {"t": (("no", none),) * 2, "u": (none,) * 2}[entry[1][0]] for entry in rules]
                    book = (features, ("cat",), sorts, "s", (rule, *said))
                    self.assertIs(is_book(book), True)
                    tree = split_tree(order_of(book, 0))
                    found = self.check_split(book, 0 if tree is None else len(row) - 2)
                    seen += self.same_papers(book, found, len(row))
        self.assertGreater(seen, 1000)

    def test_names_that_are_taken(self):
        names = ["s0", "s1", "s2", "s3", "s4", "s5"]
        rules = [plain_rule("s1", "s0", ["s1"] * 4, (0, 1, 2, 3), (3, 2, 1, 0)), plain_rule("s0", "s1", "", ("a",), ("b",)),
                 plain_rule("s2", "s5", ["s1"] * 3, (0, "a", 1, 2), (2, 0, "b", 1))]
        book = ((), (), tuple((name, "set", (), ()) for name in names[:2] + names[5:]), "s0", tuple(rules))
        found = self.check_split(book, 3)
        self.assertEqual(self.same_papers(book, found, 5), 1)
        self.assertEqual(len({sort[0] for sort in found[2]}), 6)

    def test_the_rules_that_have_no_tree_keep_their_holes(self):
        book = plain_book(plain_rule("top", "s", "tttt", (0, 1, 2, 3), (2, 0, 3, 1)), plain_rule("w", "t", "", ("a",), ("b",)), sorts="st")
        found = self.check_split(book, 0)
        self.assertEqual(len(found[4][0][2]), 4)
        self.assertEqual(count_papers(found, ("a",) * 4, ("b",) * 4), 1)

    def test_as_many_papers_far_beyond(self):
        rules = [plain_rule(f"r{at}", "s", "sss", (0, 1, 2), right) for at, right in enumerate(itertools.permutations(range(3)))]
        book = plain_book(*rules, plain_rule("w", "s", "", ("a",), ("b",)))
        found = self.check_split(book, 6)
        for size in range(1, 9):
            texts = (("a",) * size, ("b",) * size)
            self.assertEqual(count_papers(found, *texts), count_papers(book, *texts))

    def test_in_books_made_at_random(self):
        made = 0
        for seed in range(2100, 2160):
            book = random_book(seed, 4)
            naive = Naive(book)
            further = sum(max(0, len(rule[2]) - 2) for number, rule in enumerate(book[4])
                          if rule[2] and split_tree(order_of(book, number)) is not None)
            if len(book[2]) + further > 8 or not naive.few(4, 200):
                continue
            found = self.check_split(book, further)
            if further:
                made += self.same_papers(book, found, 4)
        self.assertGreater(made, 100)

    def wide_book(self, sorts, threes, fours, words):
        """A book with so many sorts, rules of three and of four holes, and further rules."""
        names = [f"n{at}" for at in range(sorts)]
        rules = [plain_rule(f"three{at}", "n0", ["n0"] * 3, (0, 1, 2), (2, 1, 0)) for at in range(threes)]
        rules += [plain_rule(f"four{at}", "n0", ["n0"] * 4, (0, 1, 2, 3), (1, 0, 3, 2)) for at in range(fours)]
        rules += [plain_rule(f"word{at}", "n0", "", ("a",), ("b",)) for at in range(words)]
        rules += [plain_rule("whirl", "n0", ["n0"] * 4, (0, 1, 2, 3), (1, 3, 0, 2))]
        return ((), (), tuple((name, "set", (), ()) for name in names), "n0", tuple(rules))

    def test_too_many_sorts(self):
        for sorts, threes, fours in [(1, 7, 0), (1, 1, 3), (3, 1, 2), (7, 1, 0), (6, 0, 1), (8, 0, 0)]:
            self.check_split(self.wide_book(sorts, threes, fours, 1), threes + 2 * fours)
            for more in ((1, threes, fours), (0, threes + 1, fours)) if sorts < 8 else ((0, 1, 0),):
                with self.assertRaises(TooMany):
                    split_book(self.wide_book(sorts + more[0], more[1], more[2], 1))

    def test_too_many_rules(self):
        for threes, fours, words in [(1, 0, 21), (0, 1, 20), (3, 1, 14), (0, 0, 23)]:
            self.check_split(self.wide_book(1, threes, fours, words), threes + 2 * fours)
            if threes + fours:
                with self.assertRaises(TooMany):
                    split_book(self.wide_book(1, threes, fours, words + 1))

    def test_errors(self):
        self.refused(split_book, [("book", E)])


def read_again(book):
    """An equal book in other tuples."""
    if isinstance(book, tuple):
        return tuple([read_again(part) for part in book])
    return book


if __name__ == "__main__":
    unittest.main()
