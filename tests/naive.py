"""The document's words done in the plainest way, and books made at random, to hold the package against.

Nothing here uses the package: readings, loose readings and papers are made
from above, all of a category that make so many words, one by one.
"""

import itertools
import random

SIDES = ("left", "right")


def is_word(item):
    return isinstance(item, str)


def is_variable(term):
    return "A" <= term <= "Z"


def side_of(thing, side, left_at):
    return thing[left_at] if side == "left" else thing[left_at + 1]


def features_of(book, sort, side):
    return [side_of(entry, side, 2) for entry in book[2] if entry[0] == sort][0]


def values_of(book, feature):
    return dict(book[0])[feature]


def worths(book, number, sides):
    """All ways to give values to a rule's variables on these sides, as dicts in the order of the bindings."""
    features = {}
    for category in (book[4][number][1],) + book[4][number][2]:
        for side in sides:
            for term, feature in zip(side_of(category, side, 1), features_of(book, category[0], side)):
                if is_variable(term):
                    features[term] = feature
    names = sorted(features)
    choices = [sorted(values_of(book, features[name])) for name in names]
    return [dict(zip(names, values)) for values in itertools.product(*choices)]


def category(given, sides, worth):
    return (given[0],) + tuple(tuple(worth.get(term, term) for term in side_of(given, side, 1)) for side in sides)


def splits(items, size):
    """All ways to give so many words to the items: a list of lengths, 1 for each word."""
    if not items:
        return [[]] if size == 0 else []
    lengths = [1] if is_word(items[0]) else range(1, size + 1)
    return [[length] + rest for length in lengths if length <= size for rest in splits(items[1:], size - length)]


def hole_lengths(items, size):
    """For each split the dict of the lengths of the holes."""
    return [{item: length for item, length in zip(items, lengths) if not is_word(item)} for lengths in splits(items, size)]


def written_out(items, parts):
    words = ()
    for item in items:
        words += (item,) if is_word(item) else parts[item]
    return words


class Naive:
    """All trees of a book, by their category and their numbers of words."""

    def __init__(self, book):
        self.book = book
        self.known = {}
        self.uses = {}
        for sides in ((), ("left",), ("right",), SIDES):
            self.uses[sides] = [
                ((number,) if sides == () else (number, tuple(worth[name] for name in sorted(worth))), number,
                 category(rule[1], sides, worth), [category(hole, sides, worth) for hole in rule[2]])
                for number, rule in enumerate(book[4]) for worth in worths(book, number, sides)
            ]

    def heads(self, sides):
        return sorted({use[2] for use in self.uses[sides]})

    def trees(self, sides, readers, wanted, sizes):
        """All (texts, tree) of the category with so many words on each of the readers' sides."""
        key = (sides, readers, wanted, sizes)
        if key not in self.known:
            self.known[key] = [found for use in self.uses[sides] if use[2] == wanted
                               for found in self.trees_of(use, sides, readers, sizes)]
        return self.known[key]

    def trees_of(self, use, sides, readers, sizes):
        label, number, _, holes = use
        items = [side_of(self.book[4][number], side, 3) for side in readers]
        found = []
        for lengths in itertools.product(*[hole_lengths(row, size) for row, size in zip(items, sizes)]):
            below = [self.trees(sides, readers, hole, tuple(row[at] for row in lengths)) for at, hole in enumerate(holes)]
            for chosen in itertools.product(*below):
                texts = tuple(written_out(row, [entry[0][at] for entry in chosen]) for at, row in enumerate(items))
                found.append((texts, label + (tuple(entry[1] for entry in chosen),)))
        return found

    def whole(self, sides, readers, sizes):
        """All (texts, tree) of the start sort."""
        return [found for head in self.heads(sides) if head[0] == self.book[3]
                for found in self.trees(sides, readers, head, sizes)]

    def few(self, size, most):
        """Whether each side has at most so many readings of at most so many words, found without making many more."""
        for side in SIDES:
            total = 0
            for words in range(1, size + 1):
                total += len(self.whole((side,), (side,), (words,)))
                if total > most:
                    return False
        return True

    def readings(self, side, text):
        return sorted(tree for texts, tree in self.whole((side,), (side,), (len(text),)) if texts == (text,))

    def loose(self, side, text):
        return sorted(tree for texts, tree in self.whole((), (side,), (len(text),)) if texts == (text,))

    def texts(self, side, size):
        return {texts[0] for texts, _ in self.whole((side,), (side,), (size,))}

    def papers(self, left, right):
        found = self.whole(SIDES, SIDES, (len(left), len(right)))
        return sorted(tree for texts, tree in found if texts == (left, right))

    def pairs(self, count, other):
        return {texts for texts, _ in self.whole(SIDES, SIDES, (count, other))}

    def stretches(self, side, text):
        return sorted(
            (begin, end) + head for begin in range(len(text)) for end in range(begin + 1, len(text) + 1)
            for head in self.heads((side,))
            if any(texts == (text[begin:end],) for texts, _ in self.trees((side,), (side,), head, (end - begin,)))
        )

    def blocks(self, left, right):
        found = []
        for begin, end in itertools.combinations(range(len(left) + 1), 2):
            for other, until in itertools.combinations(range(len(right) + 1), 2):
                for head in self.heads(SIDES):
                    trees = self.trees(SIDES, SIDES, head, (end - begin, until - other))
                    if any(texts == (left[begin:end], right[other:until]) for texts, _ in trees):
                        found.append((begin, end, other, until) + head)
        return sorted(found)


def side_tree(book, side, paper):
    """The paper with the values of the side's variables alone."""
    number, binding, children = paper
    names = sorted(worths(book, number, SIDES)[0])
    kept = sorted(worths(book, number, (side,))[0])
    values = tuple(value for name, value in zip(names, binding) if name in kept)
    return (number, values, tuple(side_tree(book, side, child) for child in children))


def bare_tree(reading):
    """The reading without its bindings."""
    return (reading[0], tuple(bare_tree(child) for child in reading[2]))


def random_category(dice, features, sorts, variables, name=None):
    entry = dice.choice(sorts) if name is None else [sort for sort in sorts if sort[0] == name][0]
    terms = []
    for side in (entry[2], entry[3]):
        terms.append(tuple(dice.choice(list(dict(features)[feature]) + variables[feature] * 2) for feature in side))
    return (entry[0],) + tuple(terms)


def random_side(dice, many, words):
    items = list(range(many))
    dice.shuffle(items)
    for _ in range(dice.choice((0, 0, 1, 1, 2)) if many > 1 else 1):
        items.insert(dice.randint(0, len(items)), dice.choice(words))
    return tuple(items)


def random_rule(dice, name, features, sorts, most_holes, head=None):
    names = [feature for feature, _ in features]
    variables = {feature: [] for feature in names}
    for variable in ("A", "B", "C"):
        if names:
            variables[dice.choice(names)].append(variable)
    many = dice.choice([0, 0, 0, 1] + list(range(2, most_holes + 1)) * 2)
    category_of_head = random_category(dice, features, sorts, variables, head)
    holes = tuple(random_category(dice, features, sorts, variables) for _ in range(many))
    none = ("none",)
    return (name, category_of_head, holes, random_side(dice, many, "abc"), random_side(dice, many, "xyz"), none, none)


def random_book(seed, most_holes=2):
    """A small book with a start sort `s`; all its sorts have the kind set."""
    dice = random.Random(seed)
    features = tuple((name, ("p", "q", "r")[:dice.randint(1, 3)]) for name in ("f", "g")[:dice.randint(0, 2)])
    names = [name for name, _ in features]
    sorts = []
    for name in ("s", "t", "u")[:dice.randint(1, 3)]:
        sides = [tuple(dice.choice(names) for _ in range(dice.randint(0, 2) if names else 0)) for _ in SIDES]
        sorts.append((name, "set", sides[0], sides[1]))
    rules = [random_rule(dice, f"r{at}", features, sorts, most_holes, "s" if at < 2 else None)
             for at in range(dice.randint(4, 8))]
    return (features, (), tuple(sorts), "s", tuple(rules))
