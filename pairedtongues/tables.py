"""Lists that are shown for tables: held against what an entry of one can be."""

from pairedtongues.bounds import MOST_ENTRIES
from pairedtongues.categories import sorts_by_name
from pairedtongues.lines import NOWHERE
from pairedtongues.plain import is_integer, is_one_of, is_tuple
from pairedtongues.uses import form_choices


def is_stretch(thing, size):
    """Whether these two are the begin and the end of a stretch of a text of so many words."""
    begin, end = thing
    return is_integer(begin) and is_integer(end) and 0 <= begin < end <= size


def is_form(book, side, name, thing):
    """Whether it is a form of the sort on the side."""
    choices = form_choices(book, side, name)
    if not is_tuple(thing, len(choices), len(choices)):
        return False
    return all([is_one_of(value, values) for value, values in zip(thing, choices)])


def is_category(book, sides, thing):
    """Whether these are the name of a sort and a form of it for each of the sides."""
    name, *forms = thing
    if not is_one_of(name, sorts_by_name(book[2])):
        return False
    return all([is_form(book, side, name, form) for side, form in zip(sides, forms)])


def spot_of(book, sides, sizes, thing):
    """The spot that an entry tells, None if it is no entry for texts of these sizes on these sides."""
    many = len(sides)
    if not is_tuple(thing, 3 * many + 1, 3 * many + 1):
        return None
    stretches = [thing[2 * at:2 * at + 2] for at in range(many)]
    if not all([is_stretch(stretch, size) for stretch, size in zip(stretches, sizes)]):
        return None
    category = thing[2 * many:]
    if not is_category(book, sides, category):
        return None
    return (stretches[0], category, stretches[1] if many == 2 else NOWHERE)


def table_of(book, sides, sizes, thing):
    """The table that a list tells, None if it is no such list or has an entry twice."""
    if not isinstance(thing, list) or len(thing) > MOST_ENTRIES:
        return None
    spots = [spot_of(book, sides, sizes, entry) for entry in thing]
    if None in spots or len(set(spots)) < len(spots):
        return None
    table = {}
    for whole, category, other in spots:
        entries = table.setdefault(whole, {}).setdefault(category, {})
        entries[other] = True
    return table
