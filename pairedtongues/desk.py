"""A desk that answers rows of words about one small book."""

from pairedtongues.errors import BadCommand
from pairedtongues.leading import led, why_not
from pairedtongues.meanings import worlds_told
from pairedtongues.nearby import nearest
from pairedtongues.plain import is_side
from pairedtongues.readings import count_readings
from pairedtongues.rows import read_book
from pairedtongues.session import Session

BOOK_ROWS = """feature number one many
marks black cat
sort clause truth /
sort phrase part number / number
sort noun set number / number
sort quality set / number
start clause
rule all phrase one / many
hole noun one / many
left every 0
right 0 olu
leftmeans all 0
rightmeans all 0
rule some phrase N / N
hole noun N / N
left some 0
right un 0
leftmeans some 0
rightmeans some 0
rule cat noun one / one
left cat
right mir
leftmeans mark cat
rightmeans mark cat
rule cat2 noun one / many
left cat
right miro
leftmeans mark cat
rightmeans mark cat
rule cats noun many / many
left cats
right miro
leftmeans mark cat
rightmeans mark cat
rule black quality / one
left black
right sen
leftmeans mark black
rightmeans mark black
rule black2 quality / many
left black
right seni
leftmeans mark black
rightmeans mark black
rule is clause /
hole phrase one / M
hole quality / M
left 0 is 1
right 1 0
leftmeans is 0 1
rightmeans is 0 1
rule are clause /
hole phrase many / M
hole quality / M
left 0 are 1
right 1 0
leftmeans is 0 1
rightmeans is 0 1"""


def joined_words(text):
    """The words of a text in a row."""
    return " ".join(text)


def answer_read(book, side, text):
    """How many readings the text has."""
    return str(count_readings(book, side, text))


def answer_lead(book, side, text):
    """The texts to which the text is led."""
    return " | ".join([joined_words(target) for target in led(book, side, text)]) or "none"


def answer_why(book, side, text):
    """What is lacking for the text to be led to one."""
    return why_not(book, side, text) or "fine"


def answer_near(book, side, text):
    """How far the nearest texts are, and the first of them."""
    found = nearest(book, side, text)
    if found is None:
        return "none"
    number, words = found
    return f"{number} {joined_words(words)}"


def answer_mean(book, side, text):
    """How many meanings the readings have that part from one another."""
    return str(len({where for _, where in worlds_told(book, side, text)}))


# What a command that is followed by a side and a text is answered by.
SIDE_ANSWERS = {
    "read": answer_read,
    "lead": answer_lead,
    "why": answer_why,
    "near": answer_near,
    "mean": answer_mean,
}


def words_in(row):
    """The words of a row; raises BadCommand for what is none."""
    if not isinstance(row, str):
        raise BadCommand("a row is a str")
    words = row.split(" ")
    if "" in words:
        raise BadCommand("the words of a row are parted by single blanks")
    return words


def need_form(fits):
    """Raises BadCommand if the row does not have the form of its command."""
    if not fits:
        raise BadCommand("the row has no form that is answered")


class Desk:
    """Answers rows of words; some of them change its book."""

    def __init__(self):
        self.held = Session(read_book(BOOK_ROWS))

    def session(self):
        """A copy of the session as it is."""
        return self.held.copy()

    def say(self, row):
        """The answer to a row."""
        command, *words = words_in(row)
        if command in SIDE_ANSWERS:
            return self.answer_side(command, words)
        if command == "pair":
            return self.answer_pair(words)
        if command == "drop":
            return self.answer_drop(words)
        need_form(command in ("undo", "rules") and not words)
        return self.answer_undo() if command == "undo" else self.answer_rules()

    def answer_side(self, command, words):
        """What a command with a side and a text is answered."""
        need_form(len(words) >= 2 and is_side(words[0]))
        answer = SIDE_ANSWERS[command]
        # What is no text is refused by the function that is asked.
        return answer(self.held.book(), words[0], tuple(words[1:]))

    def answer_pair(self, words):
        """Whether two texts are a pair."""
        need_form("/" in words)
        middle = words.index("/")
        left, right = tuple(words[:middle]), tuple(words[middle + 1:])
        need_form(left != () and right != ())
        return "yes" if self.held.is_pair(left, right) else "no"

    def answer_drop(self, words):
        """Takes a rule out."""
        need_form(len(words) == 1)
        self.held.leave_out(words[0])
        return "ok"

    def answer_undo(self):
        """Takes back what was done last."""
        self.held.undo()
        return "ok"

    def answer_rules(self):
        """The names of the rules."""
        return joined_words([rule[0] for rule in self.held.book()[4]])
