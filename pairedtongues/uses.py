"""Rules with values for their variables, on one side, on both, or on none.

A category is meant with forms here: a tuple of a sort's name and one form for
each of the sides that are looked at. So it is (sort, form) where texts of one
side are read, (sort, left form, right form) where texts are paired, and
(sort,) where forms are not looked at.
"""

from pairedtongues.categories import sorts_by_name, values_by_feature
from pairedtongues.plain import SIDES, is_variable


class Use:
    """A rule with one binding.

    The label is what a node of a tree begins with: the rule's number, and the
    binding where forms are looked at.
    """

    def __init__(self, label, head, holes):
        self.label = label
        self.number = label[0]
        self.head = head
        self.holes = holes


def other_side(side):
    """The side that this one is not."""
    return "right" if side == "left" else "left"


def side_terms(category, side):
    """The terms of a category of a rule on a side."""
    _, left, right = category
    return left if side == "left" else right


def sort_features(book, name, side):
    """The features of a sort on a side."""
    _, left, right = sorts_by_name(book[2])[name]
    return left if side == "left" else right


def terms_with_features(book, number, sides):
    """Each term in the categories of a rule on these sides, with its feature."""
    found = []
    for category in (book[4][number][1], *book[4][number][2]):
        for side in sides:
            found.extend(list(zip(side_terms(category, side), sort_features(book, category[0], side))))
    return found


def rule_variables(book, number, sides):
    """The ascending tuple of the variables of a rule on these sides."""
    terms = [term for term, _ in terms_with_features(book, number, sides)]
    return tuple(sorted({term for term in terms if is_variable(term)}))


def rule_bindings(book, number, sides):
    """The ascending list of the bindings for the variables of a rule on these sides."""
    features = dict(terms_with_features(book, number, sides))
    values = values_by_feature(book[0])
    found = [()]
    for variable in rule_variables(book, number, sides):
        choices = sorted(values[features[variable]])
        found = [(*binding, value) for binding in found for value in choices]
    return found


def bound_category(category, sides, worth):
    """The category of a rule with these values of its variables."""
    forms = [tuple([worth.get(term, term) for term in side_terms(category, side)]) for side in sides]
    return (category[0], *forms)


def rule_uses(book, number, sides):
    """The uses of one rule, by ascending bindings."""
    _, head, holes, _, _, _, _ = book[4][number]
    variables = rule_variables(book, number, sides)
    found = []
    for binding in rule_bindings(book, number, sides):
        worth = dict(zip(variables, binding))
        label = (number, binding) if sides else (number,)
        bound_holes = tuple([bound_category(hole, sides, worth) for hole in holes])
        found.append(Use(label, bound_category(head, sides, worth), bound_holes))
    return found


def uses_of(book, sides):
    """All uses of the rules of a book."""
    return [use for number in range(len(book[4])) for use in rule_uses(book, number, sides)]


def form_choices(book, side, name):
    """For each feature of a sort on a side its values, as they stand in the book."""
    values = values_by_feature(book[0])
    return [values[feature] for feature in sort_features(book, name, side)]


def all_forms(book, side, name):
    """The forms of a sort on a side, the last feature changing fastest."""
    found = [()]
    for choices in form_choices(book, side, name):
        found = [(*form, value) for form in found for value in choices]
    return found


def side_label(book, side, label):
    """What the label of a paper's node becomes on one side: the values of that side's variables are kept."""
    number, binding = label
    worth = dict(zip(rule_variables(book, number, SIDES), binding))
    return (number, tuple([worth[variable] for variable in rule_variables(book, number, (side,))]))
