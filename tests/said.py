"""Terms in worlds, done in the plainest way, terms and meanings made at random, and terms that are none."""

import itertools
import random

from tests.examples import E, Nasty, deep_tuple, strange_things
from tests.naive import random_book

NONE = ("none",)
CAT, BLACK = ("mark", "cat"), ("mark", "black")
SOME = ("is", ("some", CAT), BLACK)
YES = ("is", ("no", NONE), NONE)


def things_of(world):
    """The things of a world, each as (number, cell)."""
    return {(number, cell) for cell, many in enumerate(world) for number in range(many)}


def set_of(term, marks, world):
    """The things in a set term."""
    if term[0] == "none":
        return set()
    if term[0] == "mark":
        return {thing for thing in things_of(world) if f"{thing[1]:02b}"[::-1][marks.index(term[1])] == "1"}
    first = set_of(term[1], marks, world)
    if term[0] == "not":
        return things_of(world) - first
    second = set_of(term[2], marks, world)
    return first & second if term[0] == "both" else first | second


def part_holds(term, things, marks, world):
    if term[0] in ("and", "or"):
        both = [part_holds(part, things, marks, world) for part in term[1:]]
        return all(both) if term[0] == "and" else any(both)
    own = set_of(term[1], marks, world)
    return {"all": own <= things, "some": len(own & things) > 0, "no": len(own & things) == 0, "more": len(own & things) > 1}[term[0]]


def plainly_true(term, marks, world):
    if term[0] == "is":
        return part_holds(term[1], set_of(term[2], marks, world), marks, world)
    parts = [plainly_true(part, marks, world) for part in term[1:]]
    return {"deny": not parts[0], "and": all(parts), "or": any(parts)}[term[0]]


def random_term(dice, kind, marks, deep):
    """A closed term of the kind, at most so deep."""
    words = {"set": ["none", "mark", "mark", "not", "both", "either"], "part": ["all", "some", "no", "more", "and", "or"],
             "truth": ["is", "is", "and", "or", "deny"]}[kind]
    short = {"set": words[:3], "part": words[:4], "truth": words[:1]}[kind]
    word = dice.choice(words if deep > 3 else short)
    if word == "mark" and not marks:
        word = "none"
    inner = {"none": (), "mark": (), "not": ("set",), "both": ("set",) * 2, "either": ("set",) * 2, "is": ("part", "set"),
             "deny": ("truth",)}.get(word, ("set",) if word in ("all", "some", "no", "more") else (kind,) * 2)
    if word == "mark":
        return ("mark", dice.choice(marks))
    return (word,) + tuple(random_term(dice, part, marks, deep - 1) for part in inner)


def chain(deep, last):
    """A set term so deep."""
    for _ in range(deep - 1):
        last = ("not", last)
    return last


def tree(many):
    """A set term of so many terms that is not deep."""
    if many == 1:
        return NONE
    if many == 2:
        return ("not", NONE)
    return ("either", tree((many - 1) // 2), tree(many - 1 - (many - 1) // 2))


def denied(deep):
    """A truth term so deep."""
    term = ("is", ("no", NONE), NONE)
    for _ in range(deep - 3):
        term = ("deny", term)
    return term


def bad_truths():
    """No closed terms of the kind truth in E."""
    found = [CAT, NONE, ("all", CAT), ("hole", 0), ("deny", ("hole", 0)), ("is", ("all", ("hole", 0)), CAT), ("is", ("hole", 0), CAT),
             ("is", CAT, CAT), ("is", ("all", CAT), ("some", CAT)), ("is", ("all", ("mark", "dog")), CAT), ("is", ("all", CAT)),
             ("is", ("all", CAT), CAT, CAT), ("and", SOME), ("and", SOME, CAT), ("and", ("all", CAT), ("all", CAT)), ("or", SOME, SOME, SOME),
             ("deny",), ("deny", SOME, SOME), ("not", SOME), ("Deny", SOME), "deny", list(SOME), ["is", ("all", CAT), CAT],
             ("is", ["all", CAT], CAT), ("is", ("all", ["mark", "cat"]), CAT), ("is", ("all", ("mark", b"cat")), CAT), denied(81),
             ("is", ("all", tree(299)), NONE), ("is", ("all", chain(79, NONE)), CAT), ("is", ("all", CAT), chain(80, CAT)), (),
             ("is", ("all", Nasty()), CAT), ("is", ("all", ("mark", Nasty())), CAT), deep_tuple(190), ("mark",), ("deny", True)]
    return found + strange_things()


def hole_put(term, worths):
    """The term with its holes filled."""
    if term[0] == "hole":
        return worths[term[1]]
    return term if term[0] == "mark" else (term[0],) + tuple(hole_put(part, worths) for part in term[1:])


def told(book, side, tree):
    """What a reading or a paper means on the side."""
    meaning = book[4][tree[0]][5 if side == "left" else 6]
    return hole_put(meaning, [told(book, side, child) for child in tree[-1]])


def all_rows(marks):
    """All worlds of these marks, by size and then as tuples."""
    return sorted(itertools.product(range(3), repeat=2 ** len(marks)), key=lambda world: (sum(world), world))


def first_apart(marks, term, other):
    """The least world in which just one of the two is true, None without one."""
    for world in all_rows(marks):
        if plainly_true(term, marks, world) != plainly_true(other, marks, world):
            return world
    return None


def random_meaning(dice, kind, marks, kinds):
    """A meaning of the kind, for holes of these kinds."""
    while True:
        term = random_term(dice, kind, marks, dice.choice((3, 4, 5)))
        holes = list(range(len(kinds)))
        dice.shuffle(holes)
        term = with_some_holes(dice, term, kind, kinds, holes)
        deep, many = deep_and_many(term)
        if deep <= 5 and many <= 12:
            return term


def with_some_holes(dice, term, kind, kinds, holes):
    """The term with some of its parts exchanged for holes, which are taken out of the list."""
    if term[0] == "mark":
        inner = []
    else:
        words = {"not": ["set"], "both": ["set"] * 2, "either": ["set"] * 2, "is": ["part", "set"], "deny": ["truth"], "none": []}
        inner = words.get(term[0], ["set"] if term[0] in ("all", "some", "no", "more") else [kind] * 2)
    fit = [hole for hole in holes if kinds[hole] == kind]
    if fit and dice.random() < 0.5:
        holes.remove(fit[0])
        return ("hole", fit[0])
    if not inner:
        return term
    return (term[0],) + tuple(with_some_holes(dice, part, want, kinds, holes) for part, want in zip(term[1:], inner))


def deep_and_many(term):
    """How deep the term is, and how many terms it has."""
    if term[0] in ("mark", "hole"):
        return (1, 1)
    below = [deep_and_many(part) for part in term[1:]]
    return (1 + max([deep for deep, _ in below], default=0), 1 + sum(many for _, many in below))


def telling_book(seed, most_holes=2):
    """A book made at random whose start sort is of the kind truth, and whose rules mean something."""
    dice = random.Random(seed)
    features, _, sorts, start, rules = random_book(seed, most_holes)
    marks = ("cat", "black")[:dice.choice((1, 2, 2))]
    kinds = {sort[0]: "truth" if sort[0] == start else dice.choice(("set", "part", "truth")) for sort in sorts}
    told_rules = []
    for name, head, holes, left, right, _, _ in rules:
        inner = [kinds[hole[0]] for hole in holes]
        meaning = random_meaning(dice, kinds[head[0]], marks, inner)
        other = meaning if dice.random() < 0.6 else random_meaning(dice, kinds[head[0]], marks, inner)
        told_rules.append((name, head, holes, left, right, meaning, other))
    sorts = tuple((sort[0], kinds[sort[0]]) + sort[2:] for sort in sorts)
    return (features, marks, sorts, start, tuple(told_rules))


def truthful(book, meaning=YES):
    """The book with all sorts of the kind truth, and this meaning of all rules."""
    sorts = tuple((sort[0], "truth") + sort[2:] for sort in book[2])
    return (book[0], book[1], sorts, book[3], tuple(rule[:5] + (meaning, meaning) for rule in book[4]))


def with_meanings(book, **told_so):
    """The truthful book in which the rules with these names have these two meanings; with the marks of E."""
    book = truthful(book)
    rules = tuple(rule[:5] + told_so.get(rule[0], rule[5:]) for rule in book[4])
    return (book[0], E[1]) + book[2:4] + (rules,)
