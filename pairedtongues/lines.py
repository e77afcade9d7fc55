"""Lines of places, and the ways in which the items of a side can lie on them."""

from pairedtongues.books import side_items

# The one stretch there is where it is not looked at what lies on a side.
NOWHERE = (0, 0)


class Line:
    """Places in a row.

    words has an entry for each place, None where any word fits. What lies on a
    floating line begins at its first place, so that its length alone counts.
    """

    def __init__(self, words, floating):
        self.words = words
        self.floating = floating

    def fits(self, word, place):
        """Whether the word may stand at the place."""
        return self.words[place] is None or self.words[place] == word

    def starts(self):
        """The places at which something may begin."""
        return [0] if self.floating else list(range(len(self.words)))

    def stretch(self, begin, end):
        """The name of the stretch between the two."""
        return (0, end - begin) if self.floating else (begin, end)


class Layout:
    """The stretch on which a side lies as a whole, those of its holes by their numbers, and the places of its words."""

    def __init__(self, whole, parts, places):
        self.whole = whole
        self.parts = parts
        self.places = places

    def size(self):
        """How many places it takes."""
        begin, end = self.whole
        return end - begin


def text_line(words):
    """The line of a text, also of one with None where any word fits."""
    return Line(words, False)


def free_line(size):
    """The line of all texts of at most so many words."""
    return Line((None,) * size, True)


def is_item_word(item):
    """Whether the item of a side is a word, and not the number of a hole."""
    return isinstance(item, str)


def side_words(items):
    """The words among the items of a side, in their sequence."""
    return [item for item in items if is_item_word(item)]


def layouts_on(line, items):
    """All ways in which the items can lie on the line, one behind the other."""
    found = []
    for start in line.starts():
        ways = [(start, (), ())]
        for at, item in enumerate(items):
            room = len(line.words) - (len(items) - at - 1)
            ways = further_ways(line, ways, item, room)
        for end, parts, places in ways:
            stretches = tuple([stretch for _, stretch in sorted(parts)])
            found.append(Layout(line.stretch(start, end), stretches, places))
    return found


def further_ways(line, ways, item, room):
    """The ways with the next item laid behind them; room is the place that it may reach at most."""
    if is_item_word(item):
        return [
            (end + 1, parts, (*places, end)) for end, parts, places in ways if end < room and line.fits(item, end)
        ]
    return [
        (end, (*parts, (item, line.stretch(begin, end))), places)
        for begin, parts, places in ways for end in range(begin + 1, room + 1)
    ]


def layouts_by_rule(book, side, line):
    """The layouts of each rule's side on the line."""
    return [layouts_on(line, side_items(rule, side)) for rule in book[4]]


def no_layouts(book):
    """For each rule the one layout of a side that is not looked at."""
    return [[Layout(NOWHERE, (NOWHERE,) * len(rule[2]), ())] for rule in book[4]]
