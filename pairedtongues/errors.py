"""The errors of the package: each stands directly under TongueError."""


class TongueError(ValueError):
    """Any error of the package."""


class BadBook(TongueError):
    """What was given is no book."""


class BadText(TongueError):
    """What was given is no text."""


class BadSide(TongueError):
    """What was given is no side."""


class BadRows(TongueError):
    """The rows are not those of a book, from this word of this row on."""

    def __init__(self, row, word):
        self.row = row
        self.word = word


class BadNumber(TongueError):
    """What was given is not the number of a rule."""


class BadName(TongueError):
    """What was given is not the name of anything there."""


class BadForm(TongueError):
    """What was given is no partial form."""


class BadWord(TongueError):
    """What was given is no word."""


class BadReading(TongueError):
    """What was given is no reading."""


class BadPaper(TongueError):
    """What was given is no paper."""


class BadCount(TongueError):
    """What was given is no count, or not one within its bounds."""


class BadLinks(TongueError):
    """What was given are no links."""


class NoPair(TongueError):
    """The two texts are no pair."""


class BadPlace(TongueError):
    """What was given is not the place of a word."""


class BadOrder(TongueError):
    """What was given is no order."""


class BadWorld(TongueError):
    """What was given is no world."""


class BadTerm(TongueError):
    """What was given is no closed term of the kind that is wanted."""


class BadKind(TongueError):
    """The start sort is not of the kind that is wanted."""


class BadNumbers(TongueError):
    """What was given are no numbers of rules."""


class BadExamples(TongueError):
    """What was given are no examples."""


class BadRule(TongueError):
    """What was given is no rule that the book can take."""


class Needed(TongueError):
    """The only rule cannot be left out."""


class NothingToUndo(TongueError):
    """No deed is in force that could be taken back."""


class Full(TongueError):
    """No further deed can be in force."""


class BadCommand(TongueError):
    """What was given is no row that the desk answers."""


class TooMany(TongueError):
    """There are more than the bound allows."""
