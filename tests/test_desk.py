import itertools
import random
import unittest

from pairedtongues import errors
from pairedtongues.books import words_of
from pairedtongues.desk import Desk
from pairedtongues.leading import led, why_not
from pairedtongues.meanings import meaning
from pairedtongues.nearby import nearest
from pairedtongues.pairs import is_pair, texts_of
from pairedtongues.readings import readings
from pairedtongues.session import Session
from pairedtongues.worlds import parts_apart
from tests.examples import E, strange_things

NAMES = ["all", "some", "cat", "cat2", "cats", "black", "black2", "is", "are"]
NINE = " ".join(["cat"] * 9)
EIGHT = " ".join(["cat"] * 8)
DOG = ("dog", ("noun", ("one",), ("many",)), (), ("dog",), ("lup",), ("mark", "black"), ("mark", "black"))


class DeskCase(unittest.TestCase):
    def setUp(self):
        self.desk = Desk()

    def says(self, row, expected):
        found = self.desk.say(row)
        self.assertEqual(found, expected, row)
        self.assertIs(type(found), str)

    def refuses(self, error, *rows):
        """Each row raises the error, and nothing is other than before."""
        before = self.desk.session()
        for row in rows:
            with self.subTest(repr(row)[:60]), self.assertRaises(error) as caught:
                self.desk.say(row)
            self.assertIs(type(caught.exception), error)
            self.assertEqual(self.desk.session(), before)


class Answers(DeskCase):
    def test_the_book(self):
        self.assertEqual(self.desk.session().book(), E)
        self.says("rules", " ".join(NAMES))

    def test_by_name(self):
        self.assertEqual(self.desk.say(row="rules"), " ".join(NAMES))

    def test_read(self):
        self.says("read left every cat is black", "4")
        self.says("read right seni miro olu", "4")
        self.says("read right sen un mir", "2")
        self.says("read left cat", "0")
        self.says("read right cat", "0")
        self.says(f"read left {EIGHT}", "0")
        self.says("read left some cats are black", "2")

    def test_lead(self):
        self.says("lead left some cats are black", "seni un miro")
        self.says("lead right seni miro olu", "every cat is black")
        self.says("lead left every cats are black", "none")
        self.says("lead right every cat is black", "none")

    def test_lead_to_several_texts(self):
        # The book of the desk leads no text to several ones, but its session shows how they would be joined.
        self.assertEqual([len(led(E, "left", text)) for text in texts_of(E, "left", 8)], [1, 1, 1])

    def test_pair(self):
        self.says("pair every cat is black / seni miro olu", "yes")
        self.says("pair some cat is black / seni un miro", "no")
        self.says("pair seni miro olu / every cat is black", "no")
        self.says("pair a / b", "no")
        self.says(f"pair {EIGHT} / {EIGHT}", "no")
        self.says("pair pair / pair", "no")

    def test_why(self):
        self.says("why left every cat is black", "fine")
        self.says("why left every cats are black", "reading")
        self.says("why right seni miro olu", "fine")
        self.says("drop black2", "ok")
        self.says("why left every cat is black", "forms")
        self.says("lead left every cat is black", "none")
        self.says("why left every cats are black", "reading")

    def test_near(self):
        self.says("near left all cats are black", "1 some cats are black")
        self.says("near left every cat is black", "0 every cat is black")
        self.says("near right un", "2 sen un mir")
        self.says(f"near left {EIGHT}", "7 every cat is black")

    def test_near_none(self):
        self.says("drop is", "ok")
        self.says("drop are", "ok")
        self.says("near left every cat is black", "none")
        self.says("near right un", "none")
        self.says("mean left every cat is black", "0")
        self.says("read left every cat is black", "0")
        self.says("why left every cat is black", "reading")

    def test_mean(self):
        self.says("mean left every cat is black", "1")
        self.says("mean right seni miro olu", "1")
        self.says("mean left cat", "0")
        self.says("mean left every cats are black", "0")

    def test_drop_and_undo(self):
        self.says("drop cat", "ok")
        self.says("rules", "all some cat2 cats black black2 is are")
        self.says("read left every cat is black", "2")
        self.says("drop are", "ok")
        self.says("undo", "ok")
        self.says("rules", "all some cat2 cats black black2 is are")
        self.says("undo", "ok")
        self.says("rules", " ".join(NAMES))
        self.says("read left every cat is black", "4")
        self.refuses(errors.NothingToUndo, "undo")

    def test_all_rules_but_one(self):
        for name in NAMES[:-1]:
            self.says(f"drop {name}", "ok")
        self.says("rules", "are")
        self.refuses(errors.Needed, "drop are")
        self.refuses(errors.BadName, "drop is")
        for _ in NAMES[:-1]:
            self.says("undo", "ok")
        self.says("rules", " ".join(NAMES))
        self.refuses(errors.NothingToUndo, "undo")

    def test_held_against_the_functions(self):
        dice = random.Random(71)
        for _ in range(12):
            self.desk = Desk()
            for name in dice.sample(NAMES, dice.randint(0, 4)):
                self.says(f"drop {name}", "ok")
            book = self.desk.session().book()
            for side in ("left", "right"):
                known = words_of(book, side) + ["zz"]
                texts = texts_of(E, side, 8) + [tuple(dice.choice(known) for _ in range(dice.randint(1, 8))) for _ in range(6)]
                for text in texts:
                    words = " ".join(text)
                    self.says(f"read {side} {words}", str(len(readings(book, side, text))))
                    self.says(f"lead {side} {words}", " | ".join(" ".join(found) for found in led(book, side, text)) or "none")
                    self.says(f"why {side} {words}", why_not(book, side, text) or "fine")
                    near = nearest(book, side, text)
                    self.says(f"near {side} {words}", "none" if near is None else " ".join((str(near[0]),) + near[1]))
                    self.says(f"mean {side} {words}", str(unlike_meanings(book, side, text)))
                    for other in (("seni", "miro", "olu"), ("zz",)):
                        self.says(f"pair {words} / {' '.join(other)}", "yes" if is_pair(book, text, other) else "no")

    def test_two_desks(self):
        other = Desk()
        self.says("drop cat", "ok")
        self.assertEqual(other.say("rules"), " ".join(NAMES))


def unlike_meanings(book, side, text):
    found = []
    for reading in readings(book, side, text):
        term = meaning(book, side, reading)
        if all(parts_apart(book, term, other) is not None for other in found):
            found.append(term)
    return len(found)


class SeveralAnswers(DeskCase):
    """With a session of another book, which the desk's own commands cannot make."""

    def test_several_texts_and_meanings(self):
        book = E[:4] + (E[4] + (
            ("black3", ("quality", (), ("many",)), (), ("black",), ("nera",), ("mark", "black"), ("mark", "black")),
            ("black4", ("quality", (), ("many",)), (), ("black",), ("a", "b"), ("mark", "cat"), ("mark", "cat")),
        ),)
        self.desk.held = Session(book)
        self.says("lead left some cats are black", "nera un miro | seni un miro | a b un miro")
        self.says("mean left some cats are black", "2")
        self.says("mean left every cat is black", "2")
        self.says("read left some cats are black", "4")
        self.says("near left cats are black", "1 some cats are black")


class Errors(DeskCase):
    def test_what_is_no_str(self):
        self.refuses(errors.BadCommand, *[thing for thing in strange_things() if not isinstance(thing, str)])
        self.refuses(errors.BadCommand, b"rules", ["rules"], ("rules",), 1, True, None)

    def test_empty_words(self):
        self.refuses(errors.BadCommand, "", " ", "  ", " rules", "rules ", "read  left cat", "read left  cat", "read left cat ", " read left cat",
                     "read left cat  is", "pair a  / b", "pair a /  b", "pair a / b ", "drop  cat", "drop cat ", "undo ", " undo", "lead left ",
                     f"read left {NINE} ", "drop zz ", "pair A / ", "read left A  b")

    def test_commands_that_are_none(self):
        self.refuses(errors.BadCommand, "reads left cat", "Read left cat", "READ left cat", "say", "add", "help", "left", "/", "cat", "rules rules",
                     "undo cat", "undo 1", "rules cat", "session", "write", "rules\n", "undo\n", "\nrules", "rules\t", "read\tleft cat",
                     *[thing for thing in strange_things() if isinstance(thing, str)])

    def test_forms_that_lack_or_have_too_much(self):
        for command in ("read", "lead", "why", "near", "mean"):
            self.refuses(errors.BadCommand, command, f"{command} left", f"{command} right", f"{command} cat", f"{command} middle cat",
                         f"{command} Left cat", f"{command} cat left", f"{command} / cat", f"{command} l cat", f"{command} leftcat",
                         f"{command} both {NINE}", f"{command} middle A")
        self.refuses(errors.BadCommand, "pair", "pair cat", "pair cat mir", "pair /", "pair / cat", "pair cat /", "pair / /", "pair / / cat",
                     "pair cat/mir", "pair cat /mir", "pair A B", f"pair {NINE}", f"pair {NINE} /", f"pair / {NINE}", "pair A /", "pair / A")
        self.refuses(errors.BadCommand, "drop", "drop cat dog", "drop cat cat2", "drop zz zz", "drop cat /")

    def test_texts_that_are_none(self):
        for command, side in itertools.product(("read", "lead", "why", "near", "mean"), ("left", "right")):
            self.refuses(errors.BadText, f"{command} {side} {NINE}", f"{command} {side} Cat", f"{command} {side} cat / cat",
                         f"{command} {side} /", f"{command} {side} cat Cat", f"{command} {side} 1a", f"{command} {side} cat.",
                         f"{command} {side} abcdefghijklm", f"{command} {side} cat\n", f"{command} {side} cat\tcat", f"{command} {side} |",
                         f"{command} {side} caf\u00e9", f"{command} {side} {NINE} A")
        self.refuses(errors.BadText, f"pair {NINE} / cat", f"pair cat / {NINE}", "pair Cat / cat", "pair cat / Cat", "pair cat / cat / cat",
                     "pair cat / /", "pair cat / / cat", "pair cat / cat /", "pair | / cat", f"pair {NINE} / {NINE}", "pair cat / cat\n")

    def test_names_that_are_none(self):
        self.refuses(errors.BadName, "drop zz", "drop clause", "drop /", "drop Cat", "drop CAT", "drop 1", "drop cat\n", "drop left",
                     "drop abcdefghijklm", "drop dog")

    def test_after_an_error_the_history_is_as_before(self):
        self.says("drop cat", "ok")
        self.refuses(errors.BadCommand, "undo undo", "drop")
        self.refuses(errors.BadText, f"read left {NINE}")
        self.refuses(errors.BadName, "drop cat")
        self.says("undo", "ok")
        self.refuses(errors.NothingToUndo, "undo")
        self.says("rules", " ".join(NAMES))
        self.assertEqual(self.desk.session().book(), E)


class Sessions(DeskCase):
    def test_a_copy(self):
        session = self.desk.session()
        self.assertIsInstance(session, Session)
        self.assertIsNot(session, self.desk.session())
        session.add(DOG)
        session.leave_out("cat")
        self.says("rules", " ".join(NAMES))
        self.says("drop all", "ok")
        self.assertEqual(session.book(), E[:4] + (E[4][:2] + E[4][3:] + (DOG,),))
        self.says("undo", "ok")
        self.refuses(errors.NothingToUndo, "undo")

    def test_takes_back_what_the_desk_did(self):
        self.says("drop all", "ok")
        self.says("drop is", "ok")
        session = self.desk.session()
        session.undo()
        self.assertEqual(session.book(), E[:4] + (E[4][1:],))
        session.undo()
        self.assertEqual(session.book(), E)
        with self.assertRaises(errors.NothingToUndo):
            session.undo()
        self.says("rules", "some cat cat2 cats black black2 are")


if __name__ == "__main__":
    unittest.main()
