"""Sessions: books that grow and shrink, rule by rule."""

from pairedtongues.books import is_book, need_book
from pairedtongues.bounds import MOST_DEEDS
from pairedtongues.errors import BadName, BadRule, Full, Needed, NothingToUndo
from pairedtongues.leading import led
from pairedtongues.pairs import is_pair
from pairedtongues.plain import is_one_of
from pairedtongues.readings import readings


def with_rules(book, rules):
    """The book with these rules instead of its own."""
    return (*book[:4], tuple(rules))


class Session:
    """A book, and those that it was ahead of each deed in force."""

    def __init__(self, book):
        need_book(book)
        self.states = [book]

    def add(self, rule):
        """Adds a rule behind the others."""
        grown = with_rules(self.book(), [*self.book()[4], rule])
        if not is_book(grown):
            raise BadRule("this is no rule that the book can take")
        self.enter(grown)

    def leave_out(self, name):
        """Takes the rule of this name out."""
        rules = self.book()[4]
        if not is_one_of(name, [rule[0] for rule in rules]):
            raise BadName("the book has no rule of this name")
        if len(rules) == 1:
            raise Needed("this is the only rule")
        self.enter(with_rules(self.book(), [rule for rule in rules if rule[0] != name]))

    def enter(self, book):
        """Goes on with what a deed has made of the book."""
        if len(self.states) > MOST_DEEDS:
            raise Full("forty deeds are in force")
        self.states.append(book)

    def undo(self):
        """Takes back the last deed in force."""
        if len(self.states) == 1:
            raise NothingToUndo("no deed is in force")
        self.states.pop()

    def book(self):
        """The book as it is."""
        return self.states[-1]

    def led(self, side, text):
        """The texts to which a text is led, shortest first."""
        return led(self.book(), side, text)

    def readings(self, side, text):
        """The ascending list of the readings of a text."""
        return readings(self.book(), side, text)

    def is_pair(self, left, right):
        """Whether two texts are a pair."""
        return is_pair(self.book(), left, right)

    def __len__(self):
        return len(self.states[-1][4])

    def __eq__(self, other):
        return isinstance(other, Session) and self.states[-1] == other.states[-1]

    def copy(self):
        """An equal session that goes its own way, and can take back the same deeds."""
        twin = Session(self.states[0])
        twin.states = list(self.states)
        return twin
