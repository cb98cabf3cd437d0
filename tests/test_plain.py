"""Points 2 and 3: what is handed in is made Python's own, and is new where it can be changed."""

import unittest

from listenfield.plain import list_of, number_of, text_of, tuple_of
from things import Pair, Row, Sly, SlyText, Text, Whole, strange_things


class Plain(unittest.TestCase):

    def test_numbers(self):
        for number in (0, 1, -1, 2, -2, 10 ** 9, -(10 ** 9), 2 ** 63, -(2 ** 63), 10 ** 400, -(10 ** 400)):
            for make in (int, Whole, Sly):
                told = number_of(make(number))
                self.assertIs(type(told), int)
                self.assertEqual(told, number)

    def test_texts(self):
        for text in ("", "w", "ws\n", "\u0455 x"):
            for make in (str, Text, SlyText):
                told = text_of(make(text))
                self.assertIs(type(told), str)
                self.assertEqual(told, text)

    def test_tuples_and_lists(self):
        for things in ((), (1,), (1, [2], "x")):
            for make in (tuple, Pair):
                self.assertIs(type(tuple_of(make(things))), tuple)
                self.assertEqual(tuple_of(make(things)), things)
            for make in (list, Row):
                handed = make(things)
                told = list_of(handed)
                self.assertIs(type(told), list)
                self.assertEqual(told, list(things))
                self.assertIsNot(told, handed)

    def test_none_of_all_else(self):
        for ask, kind in ((number_of, int), (text_of, str), (tuple_of, tuple), (list_of, list)):
            for thing in strange_things():
                if isinstance(thing, bool) or not isinstance(thing, kind):
                    self.assertIsNone(ask(thing))


if __name__ == "__main__":
    unittest.main()
