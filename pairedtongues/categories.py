"""What categories are: a sort, with a term for each of its features on either side."""

from pairedtongues.bounds import MOST_VARIABLES
from pairedtongues.plain import is_one_of, is_tuple, is_variable


def values_by_feature(features):
    """A dict of the values of each feature."""
    return {name: values for name, values in features}


def sorts_by_name(sorts):
    """A dict of (kind, left features, right features) of each sort."""
    return {name: (kind, left, right) for name, kind, left, right in sorts}


def stands_for(term, feature, values, variables):
    """Whether it is a term of the feature, behind the variables that the rule has so far.

    variables is a dict of the feature that each of them stands for.
    """
    if is_one_of(term, values[feature]):
        return True
    if not is_variable(term):
        return False
    if term in variables:
        return variables[term] == feature
    return len(variables) < MOST_VARIABLES


def note_variable(term, feature, variables):
    """Puts the term into the dict of the variables if it is one."""
    if is_variable(term):
        variables[term] = feature


def are_categories(things, values, sorts):
    """Whether these are categories that can stand in one rule."""
    variables = {}
    for thing in things:
        if not is_category(thing, values, sorts, variables):
            return False
    return True


def is_category(thing, values, sorts, variables):
    """Whether it is a category, behind these variables; notes its own among them."""
    if not is_tuple(thing, 3, 3) or not is_one_of(thing[0], sorts):
        return False
    sort, left, right = thing
    _, left_features, right_features = sorts[sort]
    if not are_terms(left, left_features, values, variables):
        return False
    return are_terms(right, right_features, values, variables)


def are_terms(thing, features, values, variables):
    """Whether it is a tuple of one term for each feature; notes their variables."""
    if not is_tuple(thing, len(features), len(features)):
        return False
    for term, feature in zip(thing, features):
        if not stands_for(term, feature, values, variables):
            return False
        note_variable(term, feature, variables)
    return True
