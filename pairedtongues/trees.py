"""Trees: readings, loose readings and papers, held against their rules and written out.

The sides of a tree are those whose forms its labels tell: one side for
readings, both for papers, none for loose readings.
"""

from pairedtongues.books import side_items, side_meaning
from pairedtongues.bounds import MOST_NODES
from pairedtongues.lines import Layout, is_item_word
from pairedtongues.plain import is_integer, is_text, is_tuple
from pairedtongues.terms import with_holes
from pairedtongues.uses import uses_of


def label_of(thing, sides):
    """The label with which the thing begins, None if it cannot be a node of a tree over these sides."""
    many = 2 if sides else 1
    if not is_tuple(thing, many + 1, many + 1) or not is_integer(thing[0]) or not isinstance(thing[-1], tuple):
        return None
    if not sides:
        return (thing[0],)
    binding = thing[1]
    if not isinstance(binding, tuple) or not all([isinstance(value, str) for value in binding]):
        return None
    return (thing[0], binding)


def is_tree(book, sides, thing):
    """Whether it is a tree of the start sort over these sides, of no more nodes than one of a text can have."""
    uses = {use.label: use for use in uses_of(book, sides)}
    waiting = [(thing, None)]
    seen = 0
    while waiting:
        node, wanted = waiting.pop()
        seen += 1
        use = uses.get(label_of(node, sides))
        if seen > MOST_NODES or use is None or len(node[-1]) != len(use.holes):
            return False
        if wanted is None and use.head[0] != book[3]:
            return False
        if wanted is not None and use.head != wanted:
            return False
        waiting.extend(list(zip(node[-1], use.holes)))
    return True


def texts_made(book, sides, readers, thing):
    """The texts that it makes on the readers' sides; None if it is no tree, or one of them is no text."""
    if not is_tree(book, sides, thing):
        return None
    texts = tuple([words_made(book, side, thing) for side in readers])
    return texts if all([is_text(text) for text in texts]) else None


def words_made(book, side, tree):
    """The sequence of words that the tree makes on the side."""
    parts = [words_made(book, side, child) for child in tree[-1]]
    return spelled(side_items(book[4][tree[0]], side), parts)


def spelled(items, parts):
    """The words of the items of a side, with these sequences of words in the places of its holes."""
    words = []
    for item in items:
        words.extend([item] if is_item_word(item) else parts[item])
    return tuple(words)


def rules_in(tree):
    """The ascending tuple of the numbers of the rules in a tree, each once."""
    numbers = []
    waiting = [tree]
    while waiting:
        node = waiting.pop()
        numbers.append(node[0])
        waiting.extend(list(node[-1]))
    return tuple(sorted(set(numbers)))


def meaning_made(book, side, tree):
    """The closed term that the tree means on the side."""
    parts = [meaning_made(book, side, child) for child in tree[-1]]
    return with_holes(side_meaning(book[4][tree[0]], side), parts)


def tree_layouts(book, side, tree):
    """For each node (path, node, layout): how it lies on the line of what the tree makes on the side.

    The nodes stand behind all those below them.
    """
    return layouts_below(book, side, tree, (), 0)


def layouts_below(book, side, node, path, begin):
    """The layouts of a node that begins there and of all nodes below it, its own as the last one."""
    found = []
    parts = {}
    places = []
    end = begin
    for item in side_items(book[4][node[0]], side):
        if is_item_word(item):
            places.append(end)
            end += 1
        else:
            below = layouts_below(book, side, node[-1][item], (*path, item), end)
            found.extend(below)
            parts[item] = below[-1][2].whole
            end = parts[item][1]
    stretches = tuple([parts[hole] for hole in range(len(parts))])
    return [*found, (path, node, Layout((begin, end), stretches, tuple(places)))]
