"""What closed terms are in worlds.

A cell is one of the combinations of marks, with its number as its index in a
world. A set of things is meant by the mask of its cells, for no term parts the
things of one cell.
"""

from pairedtongues.bounds import MOST_THINGS
from pairedtongues.masks import first_bit, full_mask, has_bit


def worlds_with(many):
    """The list of all worlds of so many marks, the least first."""
    worlds = [()]
    for _ in range(1 << many):
        worlds = [(*world, number) for world in worlds for number in range(MOST_THINGS + 1)]
    return sorted(worlds, key=lambda world: (sum(world), world))


def marked_cells(many, mark):
    """The mask of the cells with the mark of this index."""
    return sum([1 << cell for cell in range(1 << many) if has_bit(cell, mark)])


def cells_of(term, marks):
    """The mask of the cells of a set term."""
    word = term[0]
    if word == "none":
        return 0
    if word == "mark":
        return marked_cells(len(marks), marks.index(term[1]))
    first = cells_of(term[1], marks)
    if word == "not":
        return full_mask(1 << len(marks)) & ~first
    second = cells_of(term[2], marks)
    return first & second if word == "both" else first | second


class Worlds:
    """A row of worlds of these marks; some of them are meant by the mask of their places in it."""

    def __init__(self, marks, row):
        self.marks = marks
        self.row = row
        self.every = full_mask(len(row))
        self.with_one = [self.with_least(cell, 1) for cell in range(1 << len(marks))]
        self.with_two = [self.with_least(cell, 2) for cell in range(1 << len(marks))]

    def with_least(self, cell, number):
        """The worlds in which at least so many things are in the cell."""
        return sum([1 << place for place, world in enumerate(self.row) if world[cell] >= number])

    def some_in(self, cells):
        """The worlds in which a thing is in one of these cells."""
        found = 0
        for cell, ones in enumerate(self.with_one):
            if has_bit(cells, cell):
                found = found | ones
        return found

    def more_in(self, cells):
        """The worlds in which at least two things are in these cells."""
        some = 0
        more = 0
        for cell, ones in enumerate(self.with_one):
            if has_bit(cells, cell):
                more = more | self.with_two[cell] | (some & ones)
                some = some | ones
        return more

    def where_not(self, worlds):
        """The other worlds."""
        return self.every & ~worlds

    def where_holds(self, term, cells):
        """The worlds in which a part term holds of the set of these cells."""
        word = term[0]
        if word == "and":
            return self.where_holds(term[1], cells) & self.where_holds(term[2], cells)
        if word == "or":
            return self.where_holds(term[1], cells) | self.where_holds(term[2], cells)
        own = cells_of(term[1], self.marks)
        if word == "all":
            return self.where_not(self.some_in(own & ~cells))
        if word == "more":
            return self.more_in(own & cells)
        within = self.some_in(own & cells)
        return within if word == "some" else self.where_not(within)

    def where_true(self, term):
        """The worlds in which a truth term is true."""
        word = term[0]
        if word == "is":
            return self.where_holds(term[1], cells_of(term[2], self.marks))
        first = self.where_true(term[1])
        if word == "deny":
            return self.where_not(first)
        second = self.where_true(term[2])
        return first & second if word == "and" else first | second

    def first_of(self, worlds):
        """The first of these worlds, None if there is none."""
        return None if worlds == 0 else self.row[first_bit(worlds)]


def all_worlds(book):
    """All worlds of a book, the least first."""
    return Worlds(book[1], worlds_with(len(book[1])))
