"""What lies on the stretches of two lines, found from the shorter ones to the longer ones.

A step is a use of a rule with one of its layouts on the first line; others
has, for each rule, its layouts on the second line. A table is a dict from
stretches of the first line to dicts from categories to dicts from stretches of
the second line to what was found there. A spot is (stretch, category, other
stretch).
"""

from pairedtongues.bounds import MOST_TREES
from pairedtongues.errors import TooMany


def steps_of(uses, layouts):
    """The steps of these uses, those on shorter stretches first; layouts has a list for each rule."""
    steps = [(use, layout) for use in uses for layout in layouts[use.number]]
    return sorted(steps, key=lambda step: step[1].size())


def joined(table, step, others):
    """Each layout on the second line with what the table has for the holes there, where it has all of them."""
    use, layout = step
    entries = [table.get(part, {}).get(hole, {}) for part, hole in zip(layout.parts, use.holes)]
    if not all(entries):
        return []
    found = []
    for other in others[use.number]:
        values = [entry.get(part) for entry, part in zip(entries, other.parts)]
        if None not in values:
            found.append((other, values))
    return found


def filled(steps, others, combine, merge):
    """The table of all that the steps make.

    combine(step, other, values) is what one step is worth with the values of
    its holes, merge(old, new) what two such values for one spot are together.
    """
    table = {}
    for step in steps:
        use, layout = step
        found = joined(table, step, others)
        if found:
            entries = table.setdefault(layout.whole, {}).setdefault(use.head, {})
            for other, values in found:
                value = combine(step, other, values)
                known = entries.get(other.whole)
                entries[other.whole] = value if known is None else merge(known, value)
    return table


def is_closed(table, steps, others):
    """Whether the table has an entry for all that one step makes of its entries."""
    for step in steps:
        use, layout = step
        entries = table.get(layout.whole, {}).get(use.head, {})
        for other, _ in joined(table, step, others):
            if other.whole not in entries:
                return False
    return True


def spots_on(table, sort, whole):
    """The spots of the table on this stretch whose category has the sort."""
    entries = table.get(whole, {})
    return [
        (whole, category, other) for category in entries if category[0] == sort for other in entries[category]
    ]


def all_spots(table):
    """All spots of the table."""
    return [
        (whole, category, other) for whole in table for category in table[whole] for other in table[whole][category]
    ]


def value_at(table, spot):
    """What the table has at the spot."""
    whole, category, other = spot
    return table[whole][category][other]


def values_on(table, sort, whole):
    """What the table has at the spots on this stretch whose category has the sort."""
    return [value_at(table, spot) for spot in spots_on(table, sort, whole)]


def how_many(step, other, values):
    """The number of ways to choose one of each hole's trees."""
    number = 1
    for value in values:
        number = number * value
    return number


def both_together(number, further):
    """The sum of two numbers."""
    return number + further


class Forest:
    """All trees that the steps make: counted at once, listed where they are asked for."""

    def __init__(self, steps, others):
        self.counts = filled(steps, others, how_many, both_together)
        self.others = others
        self.steps_at = {}
        for use, layout in steps:
            self.steps_at.setdefault((layout.whole, use.head), []).append((use, layout))
        self.known = {}

    def spots(self, sort, whole):
        """The spots on this stretch at which there are trees of the sort."""
        return spots_on(self.counts, sort, whole)

    def total(self, spots):
        """How many trees there are at these spots, however many."""
        return sum([value_at(self.counts, spot) for spot in spots])

    def few_trees(self, spots):
        """The ascending list of the trees at these spots."""
        if self.total(spots) > MOST_TREES:
            raise TooMany("there are more than five hundred of them")
        return sorted([tree for spot in spots for tree in self.trees_at(spot)])

    def trees_at(self, spot):
        """The trees at one spot."""
        if spot not in self.known:
            whole, category, other_whole = spot
            found = []
            for step in self.steps_at[(whole, category)]:
                for other, _ in joined(self.counts, step, self.others):
                    if other.whole == other_whole:
                        found.extend(self.trees_of(step, other))
            self.known[spot] = found
        return self.known[spot]

    def trees_of(self, step, other):
        """The trees that begin with this step and this layout."""
        use, layout = step
        rows = [()]
        for spot in zip(layout.parts, use.holes, other.parts):
            trees = self.trees_at(spot)
            rows = [(*row, tree) for row in rows for tree in trees]
        return [(*use.label, row) for row in rows]
