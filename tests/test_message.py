"""Point 41, of messages: what one has."""

import unittest

from fields import row_terms
from listenfield.clocks import Clock
from listenfield.message import Message
from things import Pair, Sly, Whole, is_own

QUESTION = (1, 0, (0, 2), 5, 4, 3, 20)
ITEM = (1, 0, ((2, 5), (2, 6)), 7, 3, 4, False)
PARCEL = (2, 1, (ITEM,))


class Fields(unittest.TestCase):

    def test_it_keeps_what_was_spoken(self):
        clock = Clock(row_terms(3), 2)
        message = Message(6, 2, clock, 2, (3, (QUESTION,)), ((1, 1, 4),), ((1, PARCEL),))
        self.assertEqual((message.turn, message.speaker, message.told_level), (6, 2, 2))
        self.assertIs(message.clock, clock)
        self.assertEqual(message.told_list, (3, (QUESTION,)))
        self.assertEqual(message.told_taken, ((1, 1, 4),))
        self.assertEqual(message.parcels, ((1, PARCEL),))

    def test_it_may_have_nothing(self):
        message = Message(0, 0, Clock(row_terms(2), 0), 0, (0, ()), (), ())
        self.assertEqual((message.told_list, message.told_taken, message.parcels), ((0, ()), (), ()))

    def test_all_is_pythons_own(self):
        for number in (Whole, Sly):
            def made(thing):
                if isinstance(thing, tuple):
                    return Pair(made(each) for each in thing)
                return number(thing) if isinstance(thing, int) and not isinstance(thing, bool) else thing
            told = (6, 2, 2, (3, (QUESTION,)), ((1, 1, 4),), ((1, PARCEL),))
            turn, speaker, level, listed, taken, parcels = [made(each) for each in told]
            message = Message(turn, speaker, None, level, listed, taken, parcels)
            kept = (message.turn, message.speaker, message.told_level, message.told_list, message.told_taken,
                    message.parcels)
            self.assertTrue(is_own(kept))
            self.assertEqual(kept, told)


if __name__ == "__main__":
    unittest.main()
