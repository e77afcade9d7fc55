"""Rules learned from examples: which numbers of rules make all examples pairs."""

from pairedtongues.books import need_book
from pairedtongues.bounds import MOST_EXAMPLES, MOST_RULES
from pairedtongues.errors import BadExamples, BadNumbers
from pairedtongues.masks import full_mask, joined_mask, shared_mask
from pairedtongues.needs import need_count
from pairedtongues.pairs import first_of_one, is_pair, small_pairs, texts_paired
from pairedtongues.plain import is_integer, is_text, is_tuple
from pairedtongues.trees import rules_in
from pairedtongues.ways import all_ways, branching, is_branching, is_full, least_ways, numbers_in, rows_of, sure_mask


def need_numbers(book, thing, least):
    """Raises BadNumbers for what are no numbers of rules of the book, at least so many."""
    many = len(book[4])
    if not is_tuple(thing, least, many) or not all([is_integer(number) and 0 <= number < many for number in thing]):
        raise BadNumbers("numbers are a tuple of numbers of rules")
    if list(thing) != sorted(set(thing)):
        raise BadNumbers("numbers ascend, and none of them stands twice")


def need_examples(thing):
    """Raises BadExamples for what are no examples."""
    if not is_tuple(thing, 1, MOST_EXAMPLES) or not all([is_example(entry) for entry in thing]):
        raise BadExamples("examples are a tuple of one to five tuples of two texts")


def is_example(thing):
    """Whether it is a tuple of two texts."""
    return is_tuple(thing, 2, 2) and is_text(thing[0]) and is_text(thing[1])


def rules_alone(book, numbers):
    """The book with these rules alone, of which there is at least one."""
    features, marks, sorts, start, rules = book
    return (features, marks, sorts, start, tuple([rules[number] for number in numbers]))


def part_book(book, numbers):
    """The book with the rules of these numbers alone."""
    need_book(book)
    need_numbers(book, numbers, 1)
    return rules_alone(book, numbers)


def index_unfit(book, numbers, examples):
    """The index of the first example that is not a pair of the part with these rules, None if all are."""
    for index, (left, right) in enumerate(examples):
        # Without rules there is no book, and nothing is a pair.
        if len(numbers) == 0 or not is_pair(rules_alone(book, numbers), left, right):
            return index
    return None


def first_unfit(book, numbers, examples):
    """The index of the first example that is not a pair of the part with these rules, None if all are."""
    need_book(book)
    need_numbers(book, numbers, 0)
    need_examples(examples)
    return index_unfit(book, numbers, examples)


def fits(book, numbers, examples):
    """Whether each example is a pair of the part with these rules."""
    return first_unfit(book, numbers, examples) is None


def need_learning(book, examples):
    """Raises the first error for a book and examples."""
    need_book(book)
    need_examples(examples)


def fewest_rules(book, examples):
    """The least numbers that fit, by how many they are, then as tuples compare; None if none fit."""
    need_learning(book, examples)
    found = [numbers_in(way) for way in all_ways(rows_of(book, examples))]
    return min(found, key=lambda numbers: (len(numbers), numbers), default=None)


def rules_of(book, thing):
    """The ascending tuple of the numbers of the rules in a paper, each once."""
    need_book(book)
    texts_paired(book, thing)
    return rules_in(thing)


def branching_paper(book, examples, count):
    """The branching paper that fewer rules than these cannot fit, least indexes first; None if some can."""
    need_learning(book, examples)
    need_count(count, 1, MOST_RULES + 1)
    rows = rows_of(book, examples)
    if not all([is_full(way, count) for way in all_ways(rows)]):
        return None
    return branching(rows, count, 0)


def branching_holds(book, examples, count, thing):
    """Whether any object is a branching paper that fewer rules than these cannot fit."""
    need_learning(book, examples)
    need_count(count, 1, MOST_RULES + 1)
    return is_branching(rows_of(book, examples), count, 0, thing)


def sure_rules(book, examples):
    """The numbers of the rules that stand in all numbers that fit, None if none fit."""
    need_learning(book, examples)
    # Numbers fit that have the rules of a paper of each example, so each example tells for itself what is sure.
    masks = [sure_mask(book, left, right) for left, right in examples]
    return None if None in masks else numbers_in(joined_mask(masks))


def open_rules(book, examples):
    """The numbers of the rules that some least numbers which fit have, but not all such; None if none fit.

    Least are those out of which no number can be left.
    """
    need_learning(book, examples)
    ways = least_ways(rows_of(book, examples))
    if not ways:
        return None
    sure = shared_mask(full_mask(MOST_RULES), ways)
    return numbers_in(joined_mask(ways) & ~sure)


def parting_pair(book, numbers, others, count):
    """The first small pair of just one of the two parts with these rules, None if there is none."""
    need_book(book)
    need_numbers(book, numbers, 0)
    need_numbers(book, others, 0)
    need_count(count, 1)
    return first_of_one(pairs_of_part(book, numbers, count), pairs_of_part(book, others, count))


def pairs_of_part(book, numbers, count):
    """The pairs of the part with these rules, of at most so many words on each side."""
    return small_pairs(rules_alone(book, numbers), count) if numbers else []
