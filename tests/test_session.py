import copy
import unittest

from pairedtongues import errors
from pairedtongues.books import is_book
from pairedtongues.leading import led
from pairedtongues.pairs import is_pair
from pairedtongues.readings import readings
from pairedtongues.session import Session
from tests.cases import BADS, Case, bad_books, five_hundred, alike_five_hundred, FOUR, plain_book, plain_rule
from tests.examples import BARE, E, E_TEXT, Nasty, all_paths, entry_at, exchanged, strange_things

EVERY, EVERY_RIGHT = ("every", "cat", "is", "black"), ("seni", "miro", "olu")
DOG = ("dog", ("noun", ("one",), ("many",)), (), ("dog",), ("lup",), ("mark", "black"), ("mark", "black"))
HEN = ("hen", ("noun", ("one",), ("many",)), (), ("hen",), ("gal",), ("none",), ("none",))
NAMES = ["all", "some", "cat", "cat2", "cats", "black", "black2", "is", "are"]


def small_rule(number):
    return plain_rule(f"r{number}", "s", "", (f"w{number}",), (f"v{number}",))


def names_in(session):
    return [rule[0] for rule in session.book()[4]]


class Deeds(unittest.TestCase):
    def test_a_new_session(self):
        for book in (E, BARE):
            session = Session(book)
            self.assertEqual(session.book(), book)
            self.assertEqual(len(session), len(book[4]))
        self.assertEqual(Session(book=E).book(), E)

    def test_add(self):
        session = Session(E)
        self.assertIsNone(session.add(DOG))
        self.assertEqual(session.book(), E[:4] + (E[4] + (DOG,),))
        self.assertIsNone(session.add(rule=HEN))
        self.assertEqual(session.book(), E[:4] + (E[4] + (DOG, HEN),))
        self.assertEqual(len(session), 11)
        self.assertTrue(is_book(session.book()))

    def test_leave_out(self):
        session = Session(E)
        self.assertIsNone(session.leave_out("cat"))
        self.assertEqual(names_in(session), NAMES[:2] + NAMES[3:])
        self.assertIsNone(session.leave_out(name="are"))
        self.assertEqual(session.book(), E[:4] + (E[4][:2] + E[4][3:8],))
        self.assertEqual(len(session), 7)

    def test_undo(self):
        for name in NAMES:
            session = Session(E)
            session.leave_out(name)
            self.assertIsNone(session.undo())
            # It stands again where it stood.
            self.assertEqual(session.book(), E)
        session = Session(E)
        session.leave_out("cat")
        session.add(DOG)
        session.leave_out("all")
        session.add(E[4][2])
        self.assertEqual(names_in(session), ["some", "cat2", "cats", "black", "black2", "is", "are", "dog", "cat"])
        session.undo()
        self.assertEqual(names_in(session), ["some", "cat2", "cats", "black", "black2", "is", "are", "dog"])
        session.undo()
        self.assertEqual(names_in(session), ["all", "some", "cat2", "cats", "black", "black2", "is", "are", "dog"])
        session.undo()
        session.undo()
        self.assertEqual(session.book(), E)

    def test_nothing_to_undo(self):
        session = Session(E)
        with self.assertRaises(errors.NothingToUndo):
            session.undo()
        session.add(DOG)
        session.undo()
        for _ in range(2):
            with self.assertRaises(errors.NothingToUndo):
                session.undo()
        self.assertEqual(session.book(), E)

    def test_the_rule_may_come_back_under_its_name(self):
        session = Session(E)
        session.leave_out("cat")
        session.add(("cat",) + DOG[1:])
        self.assertEqual(names_in(session), NAMES[:2] + NAMES[3:] + ["cat"])
        session.leave_out("cat")
        session.undo()
        self.assertEqual(session.book()[4][-1], ("cat",) + DOG[1:])

    def test_needed(self):
        session = Session(BARE)
        with self.assertRaises(errors.Needed):
            session.leave_out("r")
        session.add(plain_rule("q", "s", "", ("b",), ("c",)))
        session.leave_out("r")
        with self.assertRaises(errors.Needed):
            session.leave_out("q")
        with self.assertRaises(errors.BadName):
            session.leave_out("r")
        self.assertEqual(names_in(session), ["q"])

    def test_bad_names(self):
        session = Session(E)
        for bad in ["dog", "", "Cat", "clause", "cat ", b"cat", ("cat",), ["cat"], None, 0, True, Nasty(), E[4][0]] + strange_things():
            with self.assertRaises(errors.BadName):
                session.leave_out(bad)
            self.assertEqual(session.book(), E)
        with self.assertRaises(errors.BadName):
            Session(BARE).leave_out("q")

    def test_bad_rules(self):
        session = Session(E)
        bads = [list(DOG), DOG[:6], DOG + (1,), E[4][0], ("dog", ("verb", (), ())) + DOG[2:], E, E[4], (), "dog"]
        for path in all_paths(DOG)[1:]:
            part = entry_at(DOG, path)
            bads.extend([exchanged(DOG, path, thing) for thing in (None, "A1", 7, (), ["cat"], Nasty(), True, b"dog")])
            if isinstance(part, tuple):
                bads.append(exchanged(DOG, path, list(part)))
        for bad in bads + strange_things():
            # Some of what was exchanged makes another rule of it.
            if not is_book(E[:4] + ((bad,),)) or bad[0] in NAMES:
                with self.assertRaises(errors.BadRule):
                    session.add(bad)
                self.assertEqual(session.book(), E)
        self.assertGreater(len(bads), 100)

    def test_a_rule_with_which_it_would_be_no_book(self):
        session = Session(E)
        session.add(DOG)
        for bad in (DOG, ("dog",) + HEN[1:]):
            with self.assertRaises(errors.BadRule):
                session.add(bad)
        full = Session(plain_book(*[small_rule(number) for number in range(24)]))
        with self.assertRaises(errors.BadRule):
            full.add(small_rule(24))
        full.leave_out("r0")
        full.add(small_rule(24))
        self.assertEqual(len(full), 24)
        with self.assertRaises(errors.BadRule):
            full.add(small_rule(25))

    def test_no_session_of_what_is_no_book(self):
        for bad in bad_books():
            with self.assertRaises(errors.BadBook):
                Session(bad)


class Forty(unittest.TestCase):
    def filled(self):
        """A session with forty deeds in force: an add and a leave_out, twenty times."""
        session = Session(plain_book(small_rule(0)))
        for number in range(1, 21):
            session.add(small_rule(number))
            session.leave_out(f"r{number - 1}")
        return session

    def test_one_more(self):
        session = self.filled()
        book = session.book()
        self.assertEqual(names_in(session), ["r20"])
        for _ in range(2):
            with self.assertRaises(errors.Full):
                session.add(small_rule(21))
            self.assertEqual(session.book(), book)
        session.undo()
        with self.assertRaises(errors.BadName):
            session.leave_out("r21")
        session.leave_out("r20")
        with self.assertRaises(errors.Full):
            session.add(small_rule(21))

    def test_leave_outs_count_too(self):
        session = Session(plain_book(*[small_rule(number) for number in range(22)]))
        for number in range(20):
            session.leave_out(f"r{number}")
        for number in range(20):
            session.add(small_rule(number))
        with self.assertRaises(errors.Full):
            session.leave_out("r0")
        with self.assertRaises(errors.Full):
            session.add(small_rule(30))
        self.assertEqual(len(session), 22)

    def test_undo_and_one_more(self):
        session = self.filled()
        for _ in range(3):
            session.undo()
            session.leave_out("r19" if len(session) == 2 else "r20")
            with self.assertRaises(errors.Full):
                session.add(small_rule(21))
        for _ in range(40):
            session.undo()
        self.assertEqual(names_in(session), ["r0"])
        with self.assertRaises(errors.NothingToUndo):
            session.undo()
        for number in range(1, 21):
            session.add(small_rule(number))
        self.assertEqual(len(session), 21)

    def test_behind_all_other_errors(self):
        session = self.filled()
        for bad in (None, small_rule(20), E[4][0], list(small_rule(21))):
            with self.assertRaises(errors.BadRule):
                session.add(bad)
        for bad in ("r0", None, 5):
            with self.assertRaises(errors.BadName):
                session.leave_out(bad)
        with self.assertRaises(errors.Needed):
            session.leave_out("r20")
        session.undo()
        session.undo()
        session.add(small_rule(20))
        session.add(small_rule(21))
        for error, name in ((errors.BadName, "zz"), (errors.Full, "r20"), (errors.Full, "r21"), (errors.Full, "r19")):
            with self.assertRaises(error):
                session.leave_out(name)

    def test_what_was_refused_does_not_count(self):
        session = Session(E)
        for _ in range(60):
            for bad in (lambda: session.add(None), lambda: session.leave_out("zz"), session.undo):
                with self.assertRaises(errors.TongueError):
                    bad()
        for _ in range(40):
            session.add(DOG)
            session.undo()
        session.add(DOG)
        self.assertEqual(len(session), 10)


class Answers(Case):
    def test_as_the_functions_do(self):
        session = Session(E)
        for book in (E, E[:4] + (E[4][1:],), E[:4] + (E[4][1:] + (DOG,),)):
            self.assertEqual(session.book(), book)
            for side, text in (("left", EVERY), ("right", EVERY_RIGHT), ("left", ("some", "dog", "is", "black")), ("left", ("zz",))):
                self.assertEqual(session.led(side, text), led(book, side, text))
                self.assertEqual(session.readings(text=text, side=side), readings(book, side, text))
            self.assertIs(session.is_pair(EVERY, EVERY_RIGHT), is_pair(book, EVERY, EVERY_RIGHT))
            if len(session) == 9 and book == E:
                session.leave_out("all")
            elif len(session) == 8:
                session.add(DOG)
        self.assertEqual(Session(E).led("left", EVERY), [EVERY_RIGHT])
        self.assertEqual(len(Session(E).readings("left", EVERY)), 4)
        self.assertIs(Session(E).is_pair(right=EVERY_RIGHT, left=EVERY), True)

    def test_new_lists(self):
        session = Session(E)
        for answer in (session.led, session.readings):
            found = answer("left", EVERY)
            kept = copy.deepcopy(found)
            found.append("more")
            found[0] = "other"
            self.assertEqual(answer("left", EVERY), kept)
        self.assertEqual(session.book(), E)

    def test_their_errors(self):
        session = Session(E)
        self.refused(session.led, [("side", "left"), ("text", EVERY)])
        self.refused(session.readings, [("side", "left"), ("text", EVERY)])
        self.refused(session.is_pair, [("left", EVERY), ("right", EVERY_RIGHT)])
        self.assertIn("side", BADS)
        for book in (five_hundred(True), alike_five_hundred(True)):
            for answer in (Session(book).led, Session(book).readings):
                with self.assertRaises(errors.TooMany):
                    answer("left", FOUR)


class Equality(unittest.TestCase):
    def assert_equal(self, one, other, expected):
        for first, second in ((one, other), (other, one)):
            self.assertIs(first == second, expected)
            self.assertIs(first != second, not expected)

    def test_other_histories(self):
        one, other = Session(E), Session(E)
        self.assert_equal(one, other, True)
        one.add(DOG)
        self.assert_equal(one, other, False)
        other.leave_out("cat")
        other.undo()
        other.add(DOG)
        self.assert_equal(one, other, True)
        self.assert_equal(one, Session(E[:4] + (E[4] + (DOG,),)), True)
        one.add(HEN)
        other.undo()
        other.add(HEN)
        other.add(DOG)
        self.assertEqual(sorted(names_in(one)), sorted(names_in(other)))
        self.assert_equal(one, other, False)

    def test_nothing_else(self):
        for book in (E, BARE):
            for thing in [book, list(book), E_TEXT, len(book[4]), 0, 1, True, None, [book], {}, Session, ()]:
                self.assert_equal(Session(book), thing, False)


class Copies(unittest.TestCase):
    def test_goes_its_own_way(self):
        session = Session(E)
        session.leave_out("cat")
        twin = session.copy()
        self.assertIsInstance(twin, Session)
        self.assertTrue(twin == session)
        self.assertIsNot(twin, session)
        twin.add(DOG)
        self.assertEqual(names_in(session), NAMES[:2] + NAMES[3:])
        session.undo()
        self.assertEqual(session.book(), E)
        self.assertEqual(names_in(twin), NAMES[:2] + NAMES[3:] + ["dog"])
        session.add(HEN)
        self.assertEqual(names_in(twin)[-1], "dog")

    def test_of_a_new_session(self):
        session = Session(E)
        twin = session.copy()
        self.assertTrue(twin == session)
        with self.assertRaises(errors.NothingToUndo):
            twin.undo()
        twin.leave_out("cat")
        self.assertEqual((len(session), len(twin)), (9, 8))

    def test_takes_back_what_was_done_ahead_of_it(self):
        session = Session(E)
        session.leave_out("cat")
        session.add(DOG)
        twin = session.copy()
        twin.undo()
        twin.undo()
        self.assertEqual(twin.book(), E)
        with self.assertRaises(errors.NothingToUndo):
            twin.undo()
        session.undo()
        session.undo()
        self.assertEqual(session.book(), E)

    def test_deeds_count_towards_its_own_forty(self):
        session = Session(plain_book(small_rule(0), small_rule(1)))
        for number in range(2, 12):
            session.add(small_rule(number))
        for number in range(10):
            session.leave_out(f"r{number}")
        twin = session.copy()
        for number in range(20, 30):
            twin.add(small_rule(number))
            session.add(small_rule(number + 20))
        for number in range(20, 30):
            twin.leave_out(f"r{number}")
            session.leave_out(f"r{number + 20}")
        for one in (session, twin, twin.copy()):
            with self.assertRaises(errors.Full):
                one.add(small_rule(60))
        twin.undo()
        self.assertIsNone(twin.add(small_rule(60)))
        with self.assertRaises(errors.Full):
            session.add(small_rule(60))


if __name__ == "__main__":
    unittest.main()
