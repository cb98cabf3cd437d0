"""Point 50, and points 2 to 4 and 11 of it: the end that keeps no state."""

import unittest

from deeds import QUESTIONS, ROW, STRANGE, TERMS, Deeds
from listenfield.desk import Desk
from listenfield.end import answered
from listenfield.errors import FieldError, NoAnswer, NoLog, NoNumber, NoRow, TooMany, Unfit, Wrong
from listenfield.logs import show_deed, show_terms
from things import SlyText, Text, is_own

HEAD = ROW + "\n"


class Answered(unittest.TestCase):

    def test_as_a_desk_answers(self):
        for seed in range(5):
            told = Deeds(seed, turns=12)
            desk, text = Desk(show_terms(told.terms)), show_terms(told.terms) + "\n"
            for deed in [None] + told.deeds:
                if deed is not None:
                    desk.say(show_deed(deed))
                    text += show_deed(deed) + "\n"
                for row in QUESTIONS + ["level 0", "left 0", "lacks 2 3", "turns ", "x", "held 2 5"]:
                    self.assertEqual(outcome(lambda: answered(text, row)), outcome(lambda: desk.say(row)))

    def test_it_keeps_nothing(self):
        text = HEAD + "turn\n"
        for _ in range(3):
            self.assertEqual(answered(text, "turn"), "ok")
            self.assertEqual(answered(text, "turns"), "1")
            self.assertEqual(answered(text, "ask 0 - 1 1 1 0"), "1")
            self.assertEqual(answered(text, "log"), "turn\n")
        self.assertEqual(answered(HEAD, "turns"), "0")

    def test_deeds_of_the_row_are_refused_as_the_desk_refuses(self):
        text = HEAD + "ask 0 - 0 1 1 0\n" * 4 + "turn\n"
        for row, error in (("turn dead 0", Unfit), ("turn lost 0,2", Unfit), ("end 5", NoNumber),
                           ("ask 0 - 1 1 1 0", TooMany),
                           ("change 1 0 - 0 1 1 0", Wrong), ("turn dead 1 1", NoRow), ("answer 1 1", NoAnswer),
                           ("answer 0 1", NoRow), ("level 4", NoRow), ("held 0 1", NoRow), ("", NoRow), (None, NoRow)):
            with self.assertRaises(error):
                answered(text, row)

    def test_texts_of_classes_beneath(self):
        for kind in (Text, SlyText):
            told = answered(kind(HEAD + "turn\nturn\n"), kind("turns"))
            self.assertEqual(told, "2")
            self.assertTrue(is_own(told))
            self.assertTrue(is_own(answered(kind(HEAD + "turn\n"), kind("log"))))

    def test_rows_that_are_no_texts(self):
        for thing in STRANGE:
            with self.assertRaises(NoRow):
                answered(HEAD, thing)


def outcome(call):
    """What a call tells, or how it is refused."""
    try:
        return call()
    except FieldError as error:
        return error.__class__, vars(error)


class NoLogs(unittest.TestCase):

    def refused(self, text, at, row="turns"):
        """The text is refused at a row."""
        with self.assertRaises(NoLog) as told:
            answered(text, row)
        self.assertEqual(told.exception.at, at)
        self.assertTrue(is_own(told.exception.at))

    def test_a_text_without_signs(self):
        self.refused("", 0)

    def test_a_first_row_that_is_no_terms(self):
        for first in ("", " ", "turn", "turns", ROW + " ", ROW.replace("guard 40", "guard 4"), ROW + "\r"):
            self.refused(first + "\n", 0)
            self.refused(first + "\nturn\n", 0)
            self.refused(first + "\nx\n", 0)
            self.refused(first + "\nturn", 0)

    def test_signs_without_a_line_feed_behind(self):
        self.refused(ROW, 0)
        self.refused("x", 0)
        self.refused(HEAD + "turn", 1)
        self.refused(HEAD + " ", 1)
        self.refused(HEAD + "turn\nturn\nx", 3)
        self.refused(HEAD + "end 1\nturn", 2)

    def test_a_row_that_is_no_deed(self):
        for row in ("", "x", "turns", "living", "log", "turn ", "turn dead 1 1", ROW, TERMS):
            self.refused(HEAD + row + "\n", 1)
            self.refused(HEAD + "turn\nturn\n" + row + "\nturn\n", 3)
            self.refused(HEAD + "end 1\nturn\n" + row + "\nturn\n", 3)

    def test_a_deed_that_is_refused(self):
        for row in ("turn dead 0", "end 1", "change 1 0 - 9 1 1 0", "turn lost 0,2", "ask 0 - 1 1 1 0"):
            self.refused(HEAD + "turn\nturn\n" + row + "\n", 3)
            self.refused(HEAD + "turn\nturn\n" + row + "\nturn dead 0\n", 3)
        self.refused(HEAD + "ask 0 - 0 1 1 0\n" * 5, 5)

    def test_it_goes_ahead_of_a_row_that_is_none(self):
        for row in ("x", None, "answer 1 1", "turn dead 0"):
            self.refused(HEAD + "x\n", 1, row)
            self.refused("", 0, row)


if __name__ == "__main__":
    unittest.main()
