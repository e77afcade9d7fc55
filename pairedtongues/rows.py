"""Books written as rows of words, and read again."""

from pairedtongues.books import need_book
from pairedtongues.bounds import (
    MOST_DEPTH,
    MOST_FEATURES,
    MOST_HOLES,
    MOST_ITEMS,
    MOST_MARKS,
    MOST_RULES,
    MOST_SORT_FEATURES,
    MOST_SORTS,
    MOST_TERMS,
    MOST_VALUES,
)
from pairedtongues.categories import note_variable, sorts_by_name, stands_for, values_by_feature
from pairedtongues.errors import BadRows
from pairedtongues.plain import is_name, is_word
from pairedtongues.scanning import Rows
from pairedtongues.terms import is_hole, is_kind, parts_of

HOLE_DIGITS = ("0", "1", "2", "3")


def write_book(book):
    """The text of a book."""
    need_book(book)
    features, marks, sorts, start, rules = book
    rows = [["feature", name, *values] for name, values in features]
    rows.append(["marks", *marks])
    rows.extend([["sort", name, kind, *left, "/", *right] for name, kind, left, right in sorts])
    rows.append(["start", start])
    for rule in rules:
        rows.extend(rule_rows(rule))
    return "\n".join([" ".join(row) for row in rows])


def rule_rows(rule):
    """The rows of a rule, each a list of words."""
    name, head, holes, left, right, left_meaning, right_meaning = rule
    rows = [["rule", name, *category_words(head)]]
    for hole in holes:
        rows.append(["hole", *category_words(hole)])
    rows.append(["left", *item_words(left)])
    rows.append(["right", *item_words(right)])
    rows.append(["leftmeans", *meaning_words(left_meaning)])
    rows.append(["rightmeans", *meaning_words(right_meaning)])
    return rows


def category_words(category):
    """The words of a category."""
    sort, left, right = category
    return [sort, *left, "/", *right]


def item_words(items):
    """The words of the items of a side."""
    return [item if is_word(item) else HOLE_DIGITS[item] for item in items]


def meaning_words(term):
    """The words of a meaning, from the outside."""
    if term[0] == "hole":
        return [HOLE_DIGITS[term[1]]]
    if term[0] == "mark":
        return list(term)
    words = [term[0]]
    for part in term[1:]:
        words.extend(meaning_words(part))
    return words


def read_book(text):
    """The book that is written so."""
    if not isinstance(text, str):
        raise BadRows(0, 0)
    rows = Rows(text)
    features = read_features(rows)
    marks = take_names(rows.take_row("marks"), 0, MOST_MARKS)
    values = values_by_feature(features)
    sorts = read_sorts(rows, values)
    known = sorts_by_name(sorts)
    start = read_start(rows, known)
    rules = read_rules(rows, marks, values, known)
    rows.finish_rows()
    return (features, marks, sorts, start, rules)


def take_new_name(row, names):
    """The next word, a name that is not among these."""
    return row.take(is_name(row.ahead()) and row.ahead() not in names)


def take_names(row, least, most):
    """The rest of the row: so many names, none of them twice."""
    names = []
    while len(names) < most and not row.ended():
        names.append(take_new_name(row, names))
    if len(names) < least:
        row.refuse()
    row.finish()
    return tuple(names)


def read_features(rows):
    """The features, from their rows."""
    features = []
    while len(features) < MOST_FEATURES and rows.comes("feature"):
        row = rows.take_row("feature")
        name = take_new_name(row, [feature[0] for feature in features])
        features.append((name, take_names(row, 1, MOST_VALUES)))
    return tuple(features)


def read_sorts(rows, values):
    """The sorts, from their rows."""
    sorts = [read_sort(rows, [], values)]
    while len(sorts) < MOST_SORTS and rows.comes("sort"):
        sorts.append(read_sort(rows, [sort[0] for sort in sorts], values))
    return tuple(sorts)


def read_sort(rows, names, values):
    """One sort, whose name is not among these, from its row."""
    row = rows.take_row("sort")
    name = take_new_name(row, names)
    kind = row.take(is_kind(row.ahead()))
    left = take_sort_features(row, values)
    row.take(row.ahead() == "/")
    right = take_sort_features(row, values)
    row.finish()
    return (name, kind, left, right)


def take_sort_features(row, values):
    """The features of a sort on one side, up to the first word that cannot be a further one."""
    names = []
    while len(names) < MOST_SORT_FEATURES and row.ahead() in values:
        names.append(row.take(True))
    return tuple(names)


def read_start(rows, sorts):
    """The name of the start sort, from its row."""
    row = rows.take_row("start")
    name = row.take(row.ahead() in sorts)
    row.finish()
    return name


def read_rules(rows, marks, values, sorts):
    """The rules, from their rows."""
    rules = [read_rule(rows, [], marks, values, sorts)]
    while len(rules) < MOST_RULES and rows.comes("rule"):
        rules.append(read_rule(rows, [rule[0] for rule in rules], marks, values, sorts))
    return tuple(rules)


def read_rule(rows, names, marks, values, sorts):
    """One rule, whose name is not among these, from its rows."""
    row = rows.take_row("rule")
    name = take_new_name(row, names)
    variables = {}
    head = take_category(row, values, sorts, variables)
    holes = []
    while len(holes) < MOST_HOLES and rows.comes("hole"):
        holes.append(take_category(rows.take_row("hole"), values, sorts, variables))
    left = take_items(rows.take_row("left"), len(holes))
    right = take_items(rows.take_row("right"), len(holes))
    kind = sorts[head[0]][0]
    hole_kinds = [sorts[hole[0]][0] for hole in holes]
    left_meaning = take_meaning(rows.take_row("leftmeans"), kind, marks, hole_kinds)
    right_meaning = take_meaning(rows.take_row("rightmeans"), kind, marks, hole_kinds)
    return (name, head, tuple(holes), left, right, left_meaning, right_meaning)


def take_category(row, values, sorts, variables):
    """The rest of the row: a category, behind these variables; notes its own among them."""
    sort = row.take(row.ahead() in sorts)
    _, left_features, right_features = sorts[sort]
    left = take_feature_terms(row, left_features, values, variables)
    row.take(row.ahead() == "/")
    right = take_feature_terms(row, right_features, values, variables)
    row.finish()
    return (sort, left, right)


def take_feature_terms(row, features, values, variables):
    """The terms of a category on one side; notes their variables."""
    terms = []
    for feature in features:
        term = row.take(stands_for(row.ahead(), feature, values, variables))
        note_variable(term, feature, variables)
        terms.append(term)
    return tuple(terms)


def take_items(row, many):
    """The rest of the row: the items of a side of a rule with so many holes."""
    items = []
    while len(items) < MOST_ITEMS and not row.ended():
        items.append(take_item(row, many, items))
    row.finish()
    numbers = [item for item in items if not is_word(item)]
    if len(items) == 0 or len(numbers) < many or items == [0]:
        row.refuse()
    return tuple(items)


def take_item(row, many, items):
    """The next word as an item behind these."""
    word = row.ahead()
    if is_word(word):
        return row.take(True)
    row.take(word in HOLE_DIGITS[:many] and HOLE_DIGITS.index(word) not in items)
    return HOLE_DIGITS.index(word)


def take_meaning(row, kind, marks, hole_kinds):
    """The rest of the row: a meaning of this kind."""
    meaning = take_term(row, kind, 1, marks, hole_kinds, [])
    row.finish()
    return meaning


def take_term(row, kind, depth, marks, hole_kinds, begun):
    """The next term, so deep in its meaning; begun are the first words of all terms so far."""
    if len(begun) == MOST_TERMS or depth > MOST_DEPTH:
        row.refuse()
    word = row.ahead()
    if word in HOLE_DIGITS:
        number = HOLE_DIGITS.index(word)
        begun.append(row.take(is_hole(number, kind, hole_kinds) and word not in begun))
        return ("hole", number)
    parts = parts_of(kind, word)
    begun.append(row.take(parts is not None))
    if word == "mark":
        return ("mark", row.take(row.ahead() in marks))
    inner = [take_term(row, part, depth + 1, marks, hole_kinds, begun) for part in parts]
    return (word, *inner)
