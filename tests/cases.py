"""What the tests of many functions have in common: arguments that are not right, and books made for bounds."""

import unittest

from pairedtongues import errors
from tests.examples import E, E_TEXT, Nasty, all_paths, deep_tuple, entry_at, exchanged

NONE = ("none",)


def bad_books():
    return [None, True, 0, "", E_TEXT, list(E), E[:4], E + ((),), (E,), exchanged(E, (1,), ["black", "cat"]), Nasty(), b""]


def bad_sides():
    return ["Left", "", "both", "middle", "l", ("left",), ["left"], b"left", 0, True, Nasty()]


def bad_texts():
    return [
        (), ("cat",) * 9, ["cat"], "cat", ("Cat",), ("cat", None), ("cat", ""), (("cat",),), ("cat", 1), ("a b",), None, 0,
        True, b"cat", ("cat", b"cat"), {"cat": 1}, Nasty(), (Nasty(),), deep_tuple(100), ("abcdefghijklm",),
    ]


def bad_counts():
    return [0, 9, -1, 10 ** 59, True, False, None, "1", b"1", (1,), [1], Nasty()]


def bad_numbers():
    return [-1, 9, 24, 10 ** 59, True, False, None, "1", "cat", (1,), [1], Nasty()]


BADS = {"book": bad_books, "side": bad_sides, "text": bad_texts, "left": bad_texts, "right": bad_texts, "count": bad_counts}


def nothing_but_words(name, sort, left, right):
    """A rule of words alone for a sort without features."""
    return (name, (sort, (), ()), (), left, right, NONE, NONE)


def plain_book(*rules, sorts="s"):
    """A book of these rules, whose sorts, the first one the start, have the kind set and no features."""
    return ((), (), tuple((name, "set", (), ()) for name in sorts), sorts[0], tuple(rules))


def plain_rule(name, sort, holes, left, right):
    """A rule for sorts without features; holes is a str of the names of its sorts."""
    return (name, (sort, (), ()), tuple((hole, (), ()) for hole in holes), tuple(left), tuple(right), NONE, NONE)


def five_hundred(further):
    """A book in which (a, a, a, a) has five hundred readings, and one more if it is further.

    They are as many loose readings; each of their papers makes another text on the right.
    """
    rules = [plain_rule("top", "s", "wxyz", (0, 1, 2, 3), (3, 1, 0, 2))]
    for sort, many in zip("wxyz", (5, 5, 5, 4)):
        rules.extend([plain_rule(f"{sort}{at}", sort, "", ("a",), (f"{sort}{at}",)) for at in range(many)])
    if further:
        rules.append(plain_rule("more", "s", "", ("a", "a", "a", "a"), ("w9", "x9", "y9", "z9")))
    return plain_book(*rules, sorts="swxyz")


def alike_five_hundred(further):
    """The same, but all papers make (b, b, b, b) on the right."""
    book = five_hundred(further)
    rules = tuple(rule if rule[2] else rule[:4] + (("b",) * len(rule[3]),) + rule[5:] for rule in book[4])
    return book[:4] + (rules,)


FOUR = ("a",) * 4
FOUR_RIGHT = ("b",) * 4

# Any number of a's is a text, with as many readings as there are ways to
# part it again and again, and for each of them two papers a parting.
CATALAN = plain_book(
    plain_rule("keep", "s", "ss", (0, 1), (0, 1)), plain_rule("turn", "s", "ss", (0, 1), (1, 0)),
    plain_rule("word", "s", "", ("a",), ("b",)),
)


def left_variables(*nodes):
    """A book whose one text of the left has one loose reading, with as many readings as the product of the nodes' sizes.

    Each node is a tuple of three features: f has three values, g has two. With
    n nodes the text is n times a b, and c.
    """
    features = (("f", ("r", "p", "q")), ("g", ("n", "m")))
    sorts = [("s", "set", (), ())]
    rules = []
    for at, names in enumerate(nodes):
        sorts.append((f"t{at}", "set", names, ()))
        sorts.append((f"u{at}", "set", (), ()))
        category = (f"t{at}", ("A", "B", "C") if names[2] == names[0] else ("A", "B", "D"), ())
        rules.append((f"u{at}", (f"u{at}", (), ()), (category,), (0, "b"), (0, "x"), NONE, NONE))
        rules.append((f"t{at}", category, (), ("a",), ("y",), NONE, NONE))
    holes = tuple((f"u{at}", (), ()) for at in range(len(nodes)))
    numbers = tuple(range(len(nodes)))
    rules.append(("top", ("s", (), ()), holes, numbers + ("c",), numbers[::-1] + ("z",), NONE, NONE))
    return (features, (), tuple(sorts), "s", tuple(rules))


class Case(unittest.TestCase):
    """arguments is a list of (name, good value) in the order of the parameters."""

    def refused(self, function, arguments, **bads):
        """Each bad argument raises its error, whatever stands behind it.

        bads has (error, values) for the names whose bad values are none that all functions share.
        """
        known = {"book": errors.BadBook, "side": errors.BadSide, "text": errors.BadText, "left": errors.BadText,
                 "right": errors.BadText, "count": errors.BadCount}
        table = {name: (known[name], BADS[name]()) for name in known}
        table.update(bads)
        good = [value for _, value in arguments]
        worst = [table[name][1][0] if name in table else value for name, value in arguments]
        function(*good)
        for at, (name, _) in enumerate(arguments):
            if name not in table:
                continue
            error, values = table[name]
            for value in values:
                for rest in (good, worst) if at < len(good) - 1 else (good,):
                    with self.subTest(function.__name__, name=name, value=repr(value)[:60]), self.assertRaises(error) as caught:
                        function(*good[:at], value, *rest[at + 1:])
                    self.assertIs(type(caught.exception), error)

    def answers(self, function, arguments, expected):
        """The answer by position and by name, of a right kind at every depth, and new each time."""
        names = [name for name, _ in arguments]
        given = [value for _, value in arguments]
        before = repr(given)
        first = function(*given)
        self.assertEqual(first, expected)
        self.assertEqual(kinds(first), kinds(expected))
        self.assertEqual(function(**dict(reversed(list(zip(names, given))))), expected)
        if isinstance(first, list):
            first.append("more")
            first.reverse()
            self.assertEqual(function(*given), expected)
        self.assertEqual(repr(given), before)


def kinds(thing):
    """The kinds of the thing and of all its parts."""
    if isinstance(thing, (tuple, list)):
        return (type(thing), [kinds(part) for part in thing])
    return type(thing)


def spoilt(tree):
    """Things that are nearly the tree: each part exchanged for something else, left out or put in twice."""
    found = []
    for path in all_paths(tree):
        part = entry_at(tree, path)
        found.extend([exchanged(tree, path, thing) for thing in (None, "", -1, 10 ** 59, [], Nasty(), b"", {}, ("zz",))])
        if isinstance(part, tuple):
            found.append(exchanged(tree, path, list(part)))
            found.append(exchanged(tree, path, part + part[-1:]))
            found.append(exchanged(tree, path, part + (None,)))
            if part:
                found.append(exchanged(tree, path, part[:-1]))
                found.append(exchanged(tree, path, part[1:]))
        elif isinstance(part, int):
            found.append(exchanged(tree, path, str(part)))
            found.append(exchanged(tree, path, part + 100))
            if part in (0, 1):
                found.append(exchanged(tree, path, bool(part)))
        else:
            found.append(exchanged(tree, path, part + "x"))
            found.append(exchanged(tree, path, part.encode()))
    return [thing for thing in found if isinstance(thing, Nasty) or kinds(thing) != kinds(tree) or thing != tree]


def shared_tower(label, leaf, deep):
    """A tree so deep whose every node has the same child twice: it is small, but has very many nodes."""
    tree = leaf
    for _ in range(deep):
        tree = label + ((tree, tree),)
    return tree
