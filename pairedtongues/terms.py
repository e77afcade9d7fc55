"""What meanings are: terms of three kinds."""

from pairedtongues.bounds import MOST_CLOSED_DEPTH, MOST_CLOSED_TERMS, MOST_DEPTH, MOST_TERMS
from pairedtongues.plain import is_integer, is_one_of

KINDS = ("set", "part", "truth")

# For each kind, and each word with which a term of this kind can begin, the
# kinds of the terms in it. The name behind "mark" is no term.
PARTS = {
    ("set", "none"): (),
    ("set", "mark"): (),
    ("set", "not"): ("set",),
    ("set", "both"): ("set", "set"),
    ("set", "either"): ("set", "set"),
    ("part", "all"): ("set",),
    ("part", "some"): ("set",),
    ("part", "no"): ("set",),
    ("part", "more"): ("set",),
    ("part", "and"): ("part", "part"),
    ("part", "or"): ("part", "part"),
    ("truth", "is"): ("part", "set"),
    ("truth", "and"): ("truth", "truth"),
    ("truth", "or"): ("truth", "truth"),
    ("truth", "deny"): ("truth",),
}


def is_kind(thing):
    """Whether it is one of the three kinds."""
    return is_one_of(thing, KINDS)


def parts_of(kind, word):
    """The kinds of the terms in a term of this kind that begins so, None if there is no such term."""
    return PARTS.get((kind, word))


def with_holes(term, worths):
    """The term with these terms in the places of its holes."""
    if term[0] == "hole":
        return worths[term[1]]
    if term[0] == "mark":
        return term
    return (term[0], *[with_holes(part, worths) for part in term[1:]])


def is_meaning(thing, kind, marks, hole_kinds):
    """Whether it is a meaning of this kind, in a rule whose holes have these kinds."""
    return is_term(thing, kind, marks, hole_kinds, MOST_TERMS, MOST_DEPTH)


def is_closed_term(thing, kind, marks):
    """Whether it is a closed term of this kind."""
    return is_term(thing, kind, marks, (), MOST_CLOSED_TERMS, MOST_CLOSED_DEPTH)


def is_term(thing, kind, marks, hole_kinds, most, deepest):
    """Whether it is a term of this kind, of at most so many terms and at most so deep, with no hole twice."""
    waiting = [(thing, kind, 1)]
    seen = 0
    holes = []
    while waiting:
        term, wanted, depth = waiting.pop()
        seen += 1
        if seen > most or depth > deepest or not is_node(term, wanted, marks, hole_kinds):
            return False
        if term[0] == "hole":
            holes.append(term[1])
        else:
            inner = parts_of(wanted, term[0])
            waiting.extend([(part, part_kind, depth + 1) for part, part_kind in zip(term[1:], inner)])
    return len(set(holes)) == len(holes)


def is_node(thing, kind, marks, hole_kinds):
    """Whether it could be a term of this kind, if the terms in it are not looked at."""
    if not isinstance(thing, tuple) or len(thing) == 0 or not isinstance(thing[0], str):
        return False
    if thing[0] == "hole":
        return len(thing) == 2 and is_hole(thing[1], kind, hole_kinds)
    parts = parts_of(kind, thing[0])
    if parts is None:
        return False
    if thing[0] == "mark":
        return len(thing) == 2 and is_one_of(thing[1], marks)
    return len(thing) == 1 + len(parts)


def is_hole(thing, kind, hole_kinds):
    """Whether it is the number of a hole of this kind."""
    return is_integer(thing) and 0 <= thing < len(hole_kinds) and hole_kinds[thing] == kind
