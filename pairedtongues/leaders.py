"""Texts led over by a book, one or many of them."""

from pairedtongues.bounds import MOST_WORDS
from pairedtongues.charts import Forest, steps_of
from pairedtongues.lines import free_line, layouts_by_rule, text_line
from pairedtongues.pairs import shortest_first
from pairedtongues.plain import SIDES
from pairedtongues.trees import words_made
from pairedtongues.uses import other_side, uses_of


def free_layouts(book, side):
    """The layouts of the rules' sides in all texts of that side."""
    return layouts_by_rule(book, side, free_line(MOST_WORDS))


class Leader:
    """Leads texts over; what is the same for all of them is found once."""

    def __init__(self, book):
        self.book = book
        self.uses = uses_of(book, SIDES)
        self.free = {side: free_layouts(book, side) for side in SIDES}

    def forest(self, side, text):
        """All papers that have stretches of the text on the side, and any words on the other one."""
        steps = steps_of(self.uses, layouts_by_rule(self.book, side, text_line(text)))
        return Forest(steps, self.free[other_side(side)])

    def spots(self, forest, text, least, most):
        """The spots of the papers of the whole text with at least and at most so many words on the other side."""
        spots = forest.spots(self.book[3], (0, len(text)))
        return [(whole, category, other) for whole, category, other in spots if least <= other[1] <= most]

    def total(self, side, text):
        """How many papers the text has, however many."""
        forest = self.forest(side, text)
        return forest.total(self.spots(forest, text, 1, MOST_WORDS))

    def texts(self, side, text, least=1, most=MOST_WORDS):
        """The texts of so many words to which the text is led, shortest first."""
        forest = self.forest(side, text)
        trees = forest.few_trees(self.spots(forest, text, least, most))
        return shortest_first({words_made(self.book, other_side(side), tree): True for tree in trees})

    def texts_of_all(self, side, texts):
        """The texts to which any of these texts is led, shortest first."""
        return shortest_first({found: True for text in texts for found in self.texts(side, text)})
