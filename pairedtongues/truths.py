"""What closed terms are in worlds.

A cell is one of the combinations of marks, with its number as its index in a
world. A set of things is meant by the mask of its cells, for no term parts the
things of one cell.
"""

from pairedtongues.bounds import MOST_THINGS
from pairedtongues.masks import full_mask, has_bit


def worlds_with(many):
    """The list of all worlds of so many marks, the least first."""
    worlds = [()]
    for _ in range(1 << many):
        worlds = [(*world, number) for world in worlds for number in range(MOST_THINGS + 1)]
    return sorted(worlds, key=lambda world: (sum(world), world))


def marked_cells(many, mark):
    """The mask of the cells with the mark of this index."""
    return sum([1 << cell for cell in range(1 << many) if has_bit(cell, mark)])


def cells_of(term, marks):
    """The mask of the cells of a set term."""
    word = term[0]
    if word == "none":
        return 0
    if word == "mark":
        return marked_cells(len(marks), marks.index(term[1]))
    first = cells_of(term[1], marks)
    if word == "not":
        return full_mask(1 << len(marks)) & ~first
    second = cells_of(term[2], marks)
    return first & second if word == "both" else first | second


def things_in(cells, world):
    """How many things of the world are in these cells."""
    return sum([number for cell, number in enumerate(world) if has_bit(cells, cell)])


def holds_of(term, cells, marks, world):
    """Whether a part term holds of the set of these cells."""
    word = term[0]
    if word == "and":
        return holds_of(term[1], cells, marks, world) and holds_of(term[2], cells, marks, world)
    if word == "or":
        return holds_of(term[1], cells, marks, world) or holds_of(term[2], cells, marks, world)
    own = cells_of(term[1], marks)
    if word == "all":
        return things_in(own & ~cells, world) == 0
    within = things_in(own & cells, world)
    if word == "some":
        return within >= 1
    return within == 0 if word == "no" else within >= 2


def is_true(term, marks, world):
    """Whether a truth term is true in the world."""
    word = term[0]
    if word == "is":
        return holds_of(term[1], cells_of(term[2], marks), marks, world)
    first = is_true(term[1], marks, world)
    if word == "deny":
        return not first
    if word == "and":
        return first and is_true(term[2], marks, world)
    return first or is_true(term[2], marks, world)
