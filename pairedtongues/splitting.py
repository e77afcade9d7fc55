"""Rules with many holes, split into rules with two holes along the trees of their orders."""

from pairedtongues.orders import holes_in, rule_order, tree_of
from pairedtongues.plain import SIDES, is_variable
from pairedtongues.uses import side_terms, terms_with_features

NOTHING = ("none",)


def further_holes(rule):
    """How many holes above two a rule has whose order has a tree, 0 for all other rules."""
    order = rule_order(rule)
    if len(order) < 3 or tree_of(order) is None:
        return 0
    return len(order) - 2


def split_rules(book):
    """The sorts that come in, and the rules of the split book, those that come in behind the others."""
    splitter = Splitter(book)
    rules = [splitter.split_rule(number) for number in range(len(book[4]))]
    return (splitter.sorts, rules + splitter.rules)


def silent_rule(name, head, holes, left, right):
    """The rule that says nothing."""
    return (name, head, holes, left, right, NOTHING, NOTHING)


def fresh_name(taken):
    """A name that is not among these."""
    names = [f"s{number}" for number in range(len(taken) + 1)]
    return [name for name in names if name not in taken][0]


def places_in(tree):
    """The places of a tree, ascending."""
    if isinstance(tree, int):
        return [tree]
    return places_in(tree[1]) + places_in(tree[2])


def span_of(items, holes):
    """Where the least part of the items begins and ends in which these holes stand."""
    places = [at for at, item in enumerate(items) if item in holes]
    return (min(places), max(places) + 1)


def part_with(items, holes):
    """The least part of the items in which these holes stand."""
    begin, end = span_of(items, holes)
    return items[begin:end]


def collapsed(items, groups):
    """The items with the part of the first group of holes as hole 0, that of the second one as hole 1."""
    spans = sorted([(*span_of(items, group), number) for number, group in enumerate(groups)])
    (begin, end, number), (other_begin, other_end, other_number) = spans
    return (*items[:begin], number, *items[end:other_begin], other_number, *items[other_end:])


def variables_in(categories):
    """The ascending list of the variables in these categories."""
    terms = [term for category in categories for side in SIDES for term in side_terms(category, side)]
    return sorted({term for term in terms if is_variable(term)})


class Splitter:
    """The sorts and rules that come in where rules of a book are split."""

    def __init__(self, book):
        self.book = book
        self.sorts = []
        self.rules = []

    def split_rule(self, number):
        """The rule that stands in the place of this one; the others that are needed come in."""
        rule = self.book[4][number]
        name, head, holes, left, right, _, _ = rule
        if further_holes(rule) > 0:
            holes, left, right = self.halved(number, tree_of(rule_order(rule)), left, right)
        return silent_rule(name, head, holes, left, right)

    def halved(self, number, tree, left, right):
        """Two holes for the parts of a tree of a rule, and the sides, or parts of them, with these holes."""
        groups = [self.holes_below(number, part) for part in tree[1:]]
        holes = tuple([self.category_below(number, group, part) for group, part in zip(groups, tree[1:])])
        return (holes, collapsed(left, groups), collapsed(right, groups))

    def holes_below(self, number, tree):
        """The holes of a rule that stand at the places of a part of its tree."""
        in_sequence = holes_in(self.book[4][number][3])
        return [in_sequence[place] for place in places_in(tree)]

    def category_below(self, number, below, tree):
        """The category that stands for these holes; a sort and a rule come in for it if it is more than one hole."""
        _, _, holes, left, right, _, _ = self.book[4][number]
        if len(below) == 1:
            return holes[below[0]]
        head = self.further_category(number, below)
        parts = self.halved(number, tree, part_with(left, below), part_with(right, below))
        name = fresh_name([rule[0] for rule in (*self.book[4], *self.rules)])
        self.rules.append(silent_rule(name, head, *parts))
        return head

    def further_category(self, number, below):
        """A category of a sort that comes in, with the variables on which these holes have to agree with the rest."""
        shared = self.shared_variables(number, below)
        features = dict(terms_with_features(self.book, number, SIDES))
        name = fresh_name([sort[0] for sort in (*self.book[2], *self.sorts)])
        self.sorts.append((name, "set", tuple([features[variable] for variable in shared]), ()))
        return (name, shared, ())

    def shared_variables(self, number, below):
        """The ascending tuple of the variables of these holes that stand elsewhere in the rule, too."""
        _, head, holes, _, _, _, _ = self.book[4][number]
        inside = variables_in([hole for at, hole in enumerate(holes) if at in below])
        outside = variables_in([head, *[hole for at, hole in enumerate(holes) if at not in below]])
        return tuple([variable for variable in inside if variable in outside])
