"""Words that do not agree: readings without forms, what clashes in them, and what mends it."""

from pairedtongues.books import need_book, need_side, side_items, words_of
from pairedtongues.charts import Forest, filled, values_on
from pairedtongues.errors import BadName, BadPlace, BadReading
from pairedtongues.forests import loose_forest, reading_steps, trees_of_text
from pairedtongues.lines import no_layouts, side_words, text_line
from pairedtongues.masks import bits_in, either_mask, full_mask, joined_mask, shared_mask
from pairedtongues.needs import need_count
from pairedtongues.pairs import small_pairs
from pairedtongues.plain import is_integer, is_one_of
from pairedtongues.readings import need_text_on
from pairedtongues.trees import spelled, texts_made, tree_layouts
from pairedtongues.uses import uses_of


def loose_readings(book, side, text):
    """The ascending list of the loose readings of a text."""
    need_text_on(book, side, text)
    return trees_of_text(book, loose_forest(book, side, text_line(text)), text)


def loose_text(book, side, thing):
    """The text of a loose reading; raises the first error for a book, a side and what is none."""
    need_book(book)
    need_side(side)
    texts = texts_made(book, (), (side,), thing)
    if texts is None:
        raise BadReading("this is no loose reading of a text")
    return texts[0]


def forest_along(book, side, reading):
    """All readings that become parts of this loose reading."""
    uses = {}
    for use in uses_of(book, (side,)):
        uses.setdefault(use.number, []).append(use)
    steps = [(use, layout) for _, node, layout in tree_layouts(book, side, reading) for use in uses[node[0]]]
    return Forest(steps, no_layouts(book))


def bindings_for(book, side, reading):
    """The ascending list of the readings that become this loose reading without their bindings."""
    text = loose_text(book, side, reading)
    return trees_of_text(book, forest_along(book, side, reading), text)


def clash(book, side, reading):
    """The path of the first node whose part of the loose reading no reading becomes, None if there is none."""
    loose_text(book, side, reading)
    table = forest_along(book, side, reading).counts
    wholes = {path: layout.whole for path, _, layout in tree_layouts(book, side, reading)}
    for path in upward_paths(reading, ()):
        if not table.get(wholes[path]):
            return path
    return None


def upward_paths(node, path):
    """The paths of all nodes below, hole by hole, each behind those below it, and its own as the last one."""
    found = []
    for at, child in enumerate(node[-1]):
        found.extend(upward_paths(child, (*path, at)))
    return [*found, path]


def mended(book, side, text):
    """How many words have to be exchanged for a text with a reading, and the first text so near; None without one."""
    need_text_on(book, side, text)

    def nearest(step, other, values):
        # Each hole reads other places, so that the nearest whole has the nearest words in each of them.
        use, layout = step
        items = side_items(book[4][use.number], side)
        exchanged = [place for word, place in zip(side_words(items), layout.places) if word != text[place]]
        number = len(exchanged) + sum([distance for distance, _ in values])
        return (number, spelled(items, [words for _, words in values]))

    table = filled(reading_steps(book, side, text_line((None,) * len(text))), no_layouts(book), nearest, nearer)
    return min(values_on(table, book[3], (0, len(text))), default=None)


def nearer(one, other):
    """The nearer of two (number, words), by equal numbers the one with the lesser words."""
    return min(one, other)


def fitting_words(book, side, text, place):
    """The ascending list of the words that give a text with a reading at this place."""
    need_text_on(book, side, text)
    if not is_integer(place) or not 0 <= place < len(text):
        raise BadPlace("the text has no word at this place")
    known = words_of(book, side)

    def fitting(step, other, values):
        use, layout = step
        mask = shared_mask(full_mask(len(known)), values)
        for word, at in zip(side_words(side_items(book[4][use.number], side)), layout.places):
            if at == place:
                mask = mask & (1 << known.index(word))
        return mask

    line = text_line((*text[:place], None, *text[place + 1:]))
    table = filled(reading_steps(book, side, line), no_layouts(book), fitting, either_mask)
    mask = joined_mask(values_on(table, book[3], (0, len(text))))
    return [known[number] for number in bits_in(mask, len(known))]


def without_feature(book, name):
    """The book without a feature."""
    need_book(book)
    if not is_one_of(name, [feature[0] for feature in book[0]]):
        raise BadName("the book has no feature of this name")
    return left_out(book, name)


def left_out(book, name):
    """The book without the feature of this name, which it has."""
    features, marks, sorts, start, rules = book
    known = {sort[0]: sort for sort in sorts}
    kept_features = tuple([feature for feature in features if feature[0] != name])
    kept_sorts = tuple([(sort, kind, others_of(left, left, name), others_of(right, right, name))
                        for sort, kind, left, right in sorts])
    kept_rules = tuple([rule_without(rule, known, name) for rule in rules])
    return (kept_features, marks, kept_sorts, start, kept_rules)


def others_of(entries, features, name):
    """Those of the entries, one for each of the features, that stand for another feature."""
    return tuple([entry for entry, feature in zip(entries, features) if feature != name])


def rule_without(rule, sorts, name):
    """The rule without the terms of the feature; sorts is a dict of the book's sorts."""
    rule_name, head, holes, left, right, left_meaning, right_meaning = rule
    kept_holes = tuple([category_without(hole, sorts, name) for hole in holes])
    return (rule_name, category_without(head, sorts, name), kept_holes, left, right, left_meaning, right_meaning)


def category_without(category, sorts, name):
    """The category without the terms of the feature."""
    sort, left, right = category
    _, _, left_features, right_features = sorts[sort]
    return (sort, others_of(left, left_features, name), others_of(right, right_features, name))


def idle_features(book, count):
    """The ascending list of the names of the features that make no odds to the pairs of at most so many words."""
    need_book(book)
    need_count(count, 1)
    names = sorted([feature[0] for feature in book[0]])
    pairs = small_pairs(book, count)
    rest = [(name, small_pairs(left_out(book, name), count)) for name in names]
    return [name for name, others in rest if others == pairs]
