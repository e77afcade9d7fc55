"""Rows of words that are looked at in their order, and refused at the first word that does not fit."""

from pairedtongues.errors import BadRows


class Row:
    """The words of one row, taken one behind the other."""

    def __init__(self, number, words):
        self.number = number
        self.words = words
        self.at = 0

    def ended(self):
        """Whether all words are taken."""
        return self.at == len(self.words)

    def ahead(self):
        """The word that comes next."""
        # An empty word fits no place, so it can stand for the end of the row.
        return "" if self.ended() else self.words[self.at]

    def take(self, fits):
        """Steps over the next word and returns it; refuses it if it does not fit."""
        if not fits:
            self.refuse()
        word = self.ahead()
        self.at += 1
        return word

    def finish(self):
        """Refuses the next word if there is one."""
        if not self.ended():
            self.refuse()

    def refuse(self):
        """Raises BadRows for the next word, or for the end of the row."""
        raise BadRows(self.number, self.at)


class Rows:
    """The rows of a text, taken one behind the other."""

    def __init__(self, text):
        self.rows = [row.split(" ") for row in text.split("\n")]
        self.reached = 0

    def comes(self, kind):
        """Whether the next row begins with this word."""
        return self.reached < len(self.rows) and self.rows[self.reached][0] == kind

    def take_row(self, kind):
        """Steps over the next row and returns it, its first word taken; refuses it if it begins otherwise."""
        if not self.comes(kind):
            self.refuse_row()
        row = Row(self.reached, self.rows[self.reached])
        row.take(True)
        self.reached += 1
        return row

    def finish_rows(self):
        """Refuses the next row if there is one."""
        if self.reached < len(self.rows):
            self.refuse_row()

    def refuse_row(self):
        """Raises BadRows for the next row, or for the end of the rows."""
        raise BadRows(self.reached, 0)
