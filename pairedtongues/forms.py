"""Variables of rules and their bindings; forms of sorts and of words."""

from pairedtongues.books import need_book, need_side, side_items
from pairedtongues.errors import BadForm, BadWord
from pairedtongues.needs import need_number, need_sort
from pairedtongues.plain import SIDES, is_one_of, is_tuple, is_word
from pairedtongues.uses import all_forms, form_choices, rule_bindings, rule_uses, rule_variables


def sides_meant(side):
    """The sides that are meant by a side, or by None for both."""
    if side is None:
        return SIDES
    need_side(side)
    return (side,)


def variables_of(book, number, side):
    """The ascending tuple of a rule's variables on a side, of all of them for None."""
    need_book(book)
    need_number(book, number)
    return rule_variables(book, number, sides_meant(side))


def bindings_of(book, number, side):
    """The ascending list of the bindings of a rule's variables on a side, of all of them for None."""
    need_book(book)
    need_number(book, number)
    return rule_bindings(book, number, sides_meant(side))


def need_sort_on(book, side, name):
    """Raises the first error for a book, a side and a sort's name."""
    need_book(book)
    need_side(side)
    need_sort(book, name)


def forms_of(book, side, name):
    """The list of all forms of a sort on a side."""
    need_sort_on(book, side, name)
    return all_forms(book, side, name)


def need_form(book, side, name, thing):
    """Raises BadForm for what is no partial form of the sort on the side."""
    choices = form_choices(book, side, name)
    if not is_tuple(thing, len(choices), len(choices)):
        raise BadForm("a partial form is a tuple with an entry for each feature")
    if not all([told is None or is_one_of(told, values) for told, values in zip(thing, choices)]):
        raise BadForm("an entry of a partial form is a value of its feature or None")


def joined_form(book, side, name, form, other):
    """The partial form with what either of them tells, None if they tell unlike values."""
    need_sort_on(book, side, name)
    need_form(book, side, name, form)
    need_form(book, side, name, other)
    joined = []
    for told, further in zip(form, other):
        if told is not None and further is not None and told != further:
            return None
        joined.append(further if told is None else told)
    return tuple(joined)


def word_forms(book, side, word):
    """The ascending list of (sort, form) of the rules that have this word alone on the side."""
    need_book(book)
    need_side(side)
    if not is_word(word):
        raise BadWord("this is no word")
    alone = [number for number, rule in enumerate(book[4]) if side_items(rule, side) == (word,)]
    return sorted({use.head for number in alone for use in rule_uses(book, number, (side,))})
