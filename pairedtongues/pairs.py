"""Papers that show that two texts are a pair, blocks that show that they are none, and linked words."""

from pairedtongues.books import need_book, need_side
from pairedtongues.bounds import MOST_ENTRIES, MOST_WORDS
from pairedtongues.charts import all_spots, filled, is_closed, spots_on, value_at
from pairedtongues.errors import BadLinks, BadPaper, NoPair, TooMany
from pairedtongues.forests import paper_forest, paper_steps, small_papers, small_readings
from pairedtongues.lines import free_line, layouts_by_rule, text_line
from pairedtongues.needs import need_count, need_text
from pairedtongues.orders import turned_round
from pairedtongues.plain import SIDES, is_integer, is_tuple
from pairedtongues.tables import table_of
from pairedtongues.trees import texts_made, tree_layouts, words_made
from pairedtongues.uses import side_label


def need_texts(book, left, right):
    """Raises the first error for a book and two texts."""
    need_book(book)
    need_text(left)
    need_text(right)


def texts_paired(book, thing):
    """The two texts that a paper of the start sort makes; raises BadPaper for what is none."""
    texts = texts_made(book, SIDES, SIDES, thing)
    if texts is None:
        raise BadPaper("this is no paper of two texts")
    return texts


def text_forest(book, left, right):
    """All papers of stretches of two texts."""
    return paper_forest(book, "left", text_line(left), text_line(right))


def pair_spots(book, table, left, right):
    """The spots of the table that tell of papers of the whole texts."""
    spots = spots_on(table, book[3], (0, len(left)))
    return [(whole, category, other) for whole, category, other in spots if other == (0, len(right))]


def papers(book, left, right):
    """The ascending list of the papers of two texts."""
    need_texts(book, left, right)
    forest = text_forest(book, left, right)
    return forest.few_trees(pair_spots(book, forest.counts, left, right))


def count_papers(book, left, right):
    """How many papers two texts have, however many."""
    need_texts(book, left, right)
    forest = text_forest(book, left, right)
    return forest.total(pair_spots(book, forest.counts, left, right))


def is_pair(book, left, right):
    """Whether two texts have a paper."""
    return count_papers(book, left, right) > 0


def paper_holds(book, left, right, thing):
    """Whether any object is a paper of the two texts."""
    need_texts(book, left, right)
    return texts_made(book, SIDES, SIDES, thing) == (left, right)


def made_by(book, thing):
    """The two texts that a paper makes."""
    need_book(book)
    return texts_paired(book, thing)


def side_reading(book, side, thing):
    """The reading that a paper is on a side."""
    need_book(book)
    need_side(side)
    texts_paired(book, thing)
    return reading_within(book, side, thing)


def reading_within(book, side, paper):
    """The paper, or the part of one, with the values of the side's variables alone."""
    number, binding, children = paper
    kept = tuple([reading_within(book, side, child) for child in children])
    return (*side_label(book, side, (number, binding)), kept)


def pairs_of(book, count, other):
    """The ascending list of the pairs of exactly so many words on the left and on the right."""
    need_book(book)
    need_count(count, 1)
    need_count(other, 1)
    forest = paper_forest(book, "left", free_line(count), free_line(other))
    spots = [spot for spot in forest.spots(book[3], (0, count)) if spot[2] == (0, other)]
    return pairs_made(book, forest.few_trees(spots))


def pairs_made(book, trees):
    """The ascending list of the pairs that these papers make."""
    return sorted({pair_made(book, tree) for tree in trees})


def pair_made(book, tree):
    """The pair that a paper makes."""
    return (words_made(book, "left", tree), words_made(book, "right", tree))


def small_pairs(book, count):
    """The ascending list of the pairs of at most so many words on each side."""
    return pairs_made(book, small_papers(book, count))


def first_of_one(pairs, others):
    """The first pair that is in just one of the two lists, None if there is none."""
    known = {pair: True for pair in pairs}
    others_known = {pair: True for pair in others}
    apart = [pair for pair in pairs if pair not in others_known] + [pair for pair in others if pair not in known]
    return min(apart, key=together, default=None)


def together(pair):
    """The key by which pairs stand in their sequence: the number of words of both together, then the texts."""
    left, right = pair
    return (len(left) + len(right), left, right)


def texts_of(book, side, count):
    """The texts of a side of at most so many words that have a reading, shortest first."""
    need_book(book)
    need_side(side)
    need_count(count, 1)
    trees = small_readings(book, side, count)
    return shortest_first({words_made(book, side, tree): True for tree in trees})


def shortest_first(texts):
    """The list of the texts that are the keys of a dict, by the number of words, then as tuples compare."""
    return sorted(list(texts), key=lambda text: (len(text), text))


def no_pair_paper(book, left, right):
    """The ascending list of all blocks of two texts that are no pair, None if they are one."""
    need_texts(book, left, right)
    forest = text_forest(book, left, right)
    entries = [(*whole, *other, *category) for whole, category, other in all_spots(forest.counts)]
    if len(entries) > MOST_ENTRIES:
        raise TooMany("there are more than two thousand blocks")
    return None if pair_spots(book, forest.counts, left, right) else sorted(entries)


def no_pair_holds(book, left, right, thing):
    """Whether any object is a closed list of blocks that has no entry for a paper of the two texts."""
    need_texts(book, left, right)
    table = table_of(book, SIDES, (len(left), len(right)), thing)
    if table is None or pair_spots(book, table, left, right):
        return False
    steps = paper_steps(book, "left", text_line(left))
    return is_closed(table, steps, layouts_by_rule(book, "right", text_line(right)))


def links(book, thing):
    """The ascending list of the (left place, right place) of words that stand in one node of a paper."""
    need_book(book)
    texts_paired(book, thing)
    right = {path: layout.places for path, _, layout in tree_layouts(book, "right", thing)}
    linked = []
    for path, _, layout in tree_layouts(book, "left", thing):
        linked.extend([(place, other) for place in layout.places for other in right[path]])
    return sorted(linked)


def sure_links(book, left, right):
    """The ascending list of what is linked in all papers of a pair."""
    _, sure = linked_masks(book, left, right)
    return links_in(sure)


def open_links(book, left, right):
    """The ascending list of what is linked in some papers of a pair, but not in all."""
    some, sure = linked_masks(book, left, right)
    return links_in(some & ~sure)


def link_bit(place, other):
    """The bit of a mask that tells of this link."""
    return 1 << (place * MOST_WORDS + other)


def links_in(mask):
    """The ascending list of the links of which the mask tells."""
    places = range(MOST_WORDS)
    return [(place, other) for place in places for other in places if mask & link_bit(place, other)]


def linked_masks(book, left, right):
    """The masks of what is linked in some papers of two texts, and in all; raises NoPair without papers."""
    need_texts(book, left, right)
    others = layouts_by_rule(book, "right", text_line(right))
    table = filled(paper_steps(book, "left", text_line(left)), others, node_masks, either_masks)
    spots = pair_spots(book, table, left, right)
    if not spots:
        raise NoPair("the two texts are no pair")
    masks = value_at(table, spots[0])
    for spot in spots:
        masks = either_masks(masks, value_at(table, spot))
    return masks


def node_masks(step, other, values):
    """The masks of some and of all trees that begin with this step, with those of its holes.

    The holes' trees vary freely and link words of unlike stretches, so what is
    linked in all trees of one hole is linked in all trees of the whole.
    """
    some = 0
    for place in step[1].places:
        for other_place in other.places:
            some = some | link_bit(place, other_place)
    sure = some
    for hole_some, hole_sure in values:
        some = some | hole_some
        sure = sure | hole_sure
    return (some, sure)


def either_masks(masks, further):
    """The masks of the trees of both."""
    some, sure = masks
    further_some, further_sure = further
    return (some | further_some, sure & further_sure)


def crossings(links):
    """How many two entries stand the other way round on the right than on the left."""
    if not isinstance(links, (list, tuple)) or not all([is_link(entry) for entry in links]):
        raise BadLinks("links are tuples of two integers")
    # Entries of the same left place ascend on the right, so that they do not cross.
    return turned_round([other for _, other in sorted(links)])


def is_link(thing):
    """Whether it is a tuple of two integers."""
    return is_tuple(thing, 2, 2) and is_integer(thing[0]) and is_integer(thing[1])
