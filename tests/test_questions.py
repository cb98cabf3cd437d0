"""Points 34 to 36, and points 2 to 4, 9 and 10 of them: questions, their windows, the root's asking, lists by hearsay."""

import random
import unittest
from itertools import permutations, product

from listenfield.errors import FieldError, NoNumber, TooMany, Wrong
from listenfield.questions import (NO_LIST, Asking, asks, closes, closing, is_question, newer_list, over, windows_of)
from things import Like, Other, Pair, Sly, Whole, is_own, strange_things

STRANGE = strange_things() + [Other(), Like(), "question"]
RIGHT = (1, 3, (0, 2, 9), 17, 5, 3, 20)
TERMS = RIGHT[1:]
BOUNDS = {1: (0, 9), 3: (0, 10 ** 6), 4: (1, 20), 5: (1, 8), 6: (0, 200)}


def of(first, every, length, lag, places=None, number=1, sort=0):
    """A question of some windows."""
    return number, sort, places, first, every, length, lag


def questions():
    """Questions of many kinds of windows, and turns to ask about."""
    for every, length, lag in product((1, 2, 3, 4, 5, 20), range(1, 9), (0, 1, 7)):
        if length <= 2 * every:
            for first in (0, 4):
                yield of(first, every, length, lag)


def turns_of(question, window):
    """The turns of a window, as the question tells them."""
    _, _, _, first, every, length, _ = question
    return list(range(first + window * every, first + window * every + length))


class SomewhatBeyond(unittest.TestCase):

    def test_what_is_beyond_a_limit_is_told_of_all_the_same(self):
        for question in (of(0, 25, 3, 4), of(0, 4, 9, 4), of(0, 1, 5, 4), of(0, 4, 3, 201), of(10 ** 6 + 9, 4, 3, 4),
                         of(0, 4, 3, 4, (3, 12)), of(0, 4, 3, 4, (), sort=10)):
            self.assertIs(is_question(question), False)
            self.assertIs(asks(question, 3), question[2] is None or 3 in question[2])
            first, every, length, lag = question[3:]
            for window in (0, 1, 7):
                self.assertEqual(closes(question, window), first + window * every + length - 1 + lag)
                self.assertIn(window, windows_of(question, first + window * every))
                self.assertEqual(closing(question, closes(question, window)), [window])
                self.assertEqual(over(question, closes(question, window)), window + 1)

    def test_it_is_asked_all_the_same(self):
        root = Asking()
        self.assertEqual(root.ask((10, (), 4, 25, 60, 201), 4), 1)
        self.assertEqual(root.change(1, (0, (3, 12), 10 ** 6 + 9, 4, 9, 4), 4), 2)
        self.assertEqual(root.listed(), (2, ((2, 0, (3, 12), 10 ** 6 + 9, 4, 9, 4),)))


class IsQuestion(unittest.TestCase):

    def test_right_ones(self):
        for thing in (RIGHT, of(0, 1, 1, 0), of(10 ** 6, 20, 8, 200), of(3, 4, 8, 0), of(0, 1, 2, 0, (0,)),
                      of(0, 1, 1, 0, (9,), 10 ** 30, 9), of(0, 1, 1, 0, tuple(range(10)))):
            self.assertIs(is_question(thing), True, thing)

    def test_other_things(self):
        for thing in STRANGE + [RIGHT[:-1], RIGHT[1:], RIGHT + (0,), list(RIGHT), dict.fromkeys(RIGHT), iter(RIGHT),
                                (RIGHT,), [RIGHT], 1]:
            self.assertIs(is_question(thing), False)

    def test_each_part_put_otherwise(self):
        for at in range(7):
            for thing in STRANGE + [-1, 10 ** 30, -(10 ** 30), Sly(-1)]:
                right = (at == 0 and isinstance(thing, int) and thing == 10 ** 30 and not isinstance(thing, Sly)
                         or at == 2 and (thing is None or isinstance(thing, tuple) and thing in ((0,), (0, 1, 2))))
                self.assertIs(is_question(RIGHT[:at] + (thing,) + RIGHT[at + 1:]), right, (at, thing))

    def test_bounds(self):
        for at, (least, most) in BOUNDS.items():
            base = of(17, 20, 1, 20)
            for number in (least, least + 1, most - 1, most):
                thing = base[:at] + (number,) + base[at + 1:]
                self.assertIs(is_question(thing), True, thing)
            for number in (least - 1, most + 1):
                self.assertIs(is_question(base[:at] + (number,) + base[at + 1:]), False)
        for number, told in ((1, True), (2, True), (0, False), (-1, False)):
            self.assertIs(is_question((number,) + RIGHT[1:]), told)

    def test_length_is_at_most_twice_every(self):
        for every, length in product(range(1, 21), range(1, 18)):
            self.assertIs(is_question(of(0, every, length, 0)), length <= min(8, 2 * every))

    def test_places_rise(self):
        for places in ((0,), (0, 1), (3, 7, 9), tuple(range(10)), None):
            self.assertIs(is_question(of(0, 1, 1, 0, places)), True)
        for places in ((), (1, 0), (1, 1), (0, 2, 2), (10,), (-1,), (0, 10), [0], [0, 1], {0}, "01", 0, (None,),
                       (True,), (0, True), ((0,),), "-", range(2)):
            self.assertIs(is_question(of(0, 1, 1, 0, places)), False, places)

    def test_of_classes_beneath(self):
        for number in (Whole, Sly):
            thing = Pair(Pair(map(number, part)) if isinstance(part, tuple) else number(part) for part in RIGHT)
            self.assertIs(is_question(thing), True)
            for at, wrong in ((0, 0), (1, 10), (3, -1), (4, 0), (4, 21), (5, 9), (5, 0), (6, 201)):
                self.assertIs(is_question(thing[:at] + (number(wrong),) + thing[at + 1:]), False)
            self.assertIs(is_question(thing[:2] + ((number(2), number(1)),) + thing[3:]), False)
            self.assertIs(is_question(of(0, number(1), number(3), 0)), False)


class Asks(unittest.TestCase):

    def test_those_it_has(self):
        for place in range(10):
            self.assertIs(asks(RIGHT, place), place in (0, 2, 9))
            self.assertIs(asks(of(0, 1, 1, 0, (4,)), place), place == 4)

    def test_all(self):
        for place in range(10):
            self.assertIs(asks(of(0, 1, 1, 0), place), True)

    def test_of_classes_beneath(self):
        for number in (Whole, Sly):
            self.assertIs(asks(RIGHT, number(2)), True)
            self.assertIs(asks(RIGHT, number(3)), False)
            self.assertIs(asks(of(0, 1, 1, 0, (number(4), number(6))), 5), False)


class Windows(unittest.TestCase):

    def test_told_ones(self):
        question = of(10, 3, 4, 2)
        self.assertEqual([windows_of(question, turn) for turn in range(9, 18)],
                         [[], [0], [0], [0], [0, 1], [1], [1], [1, 2], [2]])
        self.assertEqual([closes(question, window) for window in range(3)], [15, 18, 21])
        self.assertEqual([closing(question, turn) for turn in (14, 15, 16, 17, 18, 21)], [[], [0], [], [], [1], [2]])
        self.assertEqual([over(question, turn) for turn in (0, 14, 15, 17, 18, 20, 21)], [0, 0, 1, 1, 2, 2, 3])

    def test_as_each_window_tells(self):
        for question in questions():
            windows = range(60)
            for turn in range(50):
                having = [window for window in windows if turn in turns_of(question, window)]
                ends = [turns_of(question, window)[-1] + question[6] for window in windows]
                self.assertEqual(windows_of(question, turn), having)
                self.assertEqual(closing(question, turn), [window for window in windows if ends[window] == turn])
                self.assertEqual(over(question, turn), len([end for end in ends if end <= turn]))
            self.assertEqual([closes(question, window) for window in windows], ends)

    def test_gaps_between_windows(self):
        question = of(5, 4, 1, 0)
        self.assertEqual([windows_of(question, turn) for turn in range(3, 11)], [[], [], [0], [], [], [], [1], []])

    def test_in_two_windows_at_most(self):
        for question in questions():
            self.assertLessEqual(max(len(windows_of(question, turn)) for turn in range(50)), 2)

    def test_behind_the_last_turn(self):
        question = of(10 ** 6, 20, 8, 200)
        self.assertEqual(closes(question, 0), 10 ** 6 + 207)
        self.assertEqual(closes(question, 10 ** 9), 10 ** 6 + 207 + 20 * 10 ** 9)
        self.assertEqual(closing(question, 10 ** 6 + 227), [1])
        self.assertEqual(over(question, 10 ** 6 + 227), 2)
        self.assertEqual(windows_of(question, 10 ** 6), [0])
        self.assertEqual(windows_of(question, 10 ** 6 - 1), [])

    def test_told_lists_are_new_ones(self):
        question = of(0, 1, 2, 0)
        for ask in (lambda: windows_of(question, 5), lambda: closing(question, 5)):
            told = ask()
            kept = list(told)
            told.append(99)
            self.assertEqual(ask(), kept)

    def test_in_pythons_own_kinds(self):
        for number in (Whole, Sly):
            question = Pair(part if part is None else number(part) for part in of(10, 3, 4, 2))
            told = [windows_of(question, number(13)), closing(question, number(18)), closes(question, number(2)),
                    over(question, number(18))]
            self.assertEqual(told, [[0, 1], [1], 21, 2])
            self.assertTrue(is_own(told))


def state(asking):
    """All that an asking tells."""
    return asking.version(), asking.listed()


class Deeds(unittest.TestCase):

    def refused(self, refusal, asking, deed, *things):
        before = state(asking)
        with self.assertRaises(refusal) as caught:
            getattr(asking, deed)(*things)
        self.assertIs(type(caught.exception), refusal)
        self.assertIsInstance(caught.exception, FieldError)
        self.assertEqual(state(asking), before)
        return caught.exception

    def asked(self, many):
        """An asking in which so many questions were asked."""
        asking = Asking()
        for _ in range(many):
            asking.ask(TERMS, 0)
        return asking

    def test_at_first(self):
        self.assertEqual(state(Asking()), (0, (0, ())))
        self.assertEqual(NO_LIST, (0, ()))

    def test_ask_tells_the_next_number(self):
        asking = Asking()
        rows = []
        for number in range(1, 5):
            self.assertEqual(asking.ask(TERMS, 17), number)
            rows.append((number, *TERMS))
            self.assertEqual(state(asking), (number, (number, tuple(rows))))
        self.assertTrue(all(is_question(question) for question in asking.listed()[1]))

    def test_four_may_live(self):
        asking = self.asked(4)
        for terms_of, turn in ((TERMS, 0), (TERMS, 99)):
            self.assertEqual(self.refused(TooMany, asking, "ask", terms_of, turn).most, 4)
        asking.end(2)
        self.assertEqual(asking.ask(TERMS, 0), 5)
        self.refused(TooMany, asking, "ask", TERMS, 0)
        self.assertEqual([question[0] for question in asking.listed()[1]], [1, 3, 4, 5])

    def test_first_is_not_less_than_the_turn(self):
        asking = self.asked(1)
        for turn in (18, 19, 10 ** 6, Sly(18)):
            self.assertEqual(self.refused(Wrong, asking, "ask", TERMS, turn).at, 0)
            self.assertEqual(self.refused(Wrong, asking, "change", 1, TERMS, turn).at, 0)
        for turn in (17, 16, 0):
            self.assertEqual(self.asked(0).ask(TERMS, turn), 1)

    def test_end_takes_one_away(self):
        asking = self.asked(3)
        self.assertIsNone(asking.end(2))
        self.assertEqual(state(asking), (4, (4, ((1, *TERMS), (3, *TERMS)))))
        self.assertIsNone(asking.end(1))
        self.assertIsNone(asking.end(3))
        self.assertEqual(state(asking), (6, (6, ())))

    def test_numbers_come_once(self):
        asking = self.asked(2)
        asking.end(1)
        asking.end(2)
        self.assertEqual(asking.ask(TERMS, 0), 3)
        self.assertEqual(asking.change(3, TERMS, 0), 4)
        self.assertEqual(asking.ask(TERMS, 0), 5)
        self.assertEqual([question[0] for question in asking.listed()[1]], [4, 5])

    def test_no_number_whatever_it_is(self):
        asking = self.asked(3)
        asking.end(2)
        for thing in STRANGE + [0, 2, 4, -1, 10 ** 30, "1", (1,), [1], Sly(2), Whole(4)]:
            self.assertIs(self.refused(NoNumber, asking, "end", thing).number, thing)
            self.assertIs(self.refused(NoNumber, asking, "change", thing, TERMS, 0).number, thing)
            self.assertIs(self.refused(NoNumber, asking, "change", thing, TERMS, 99).number, thing)

    def test_change_takes_one_away_and_asks_anew(self):
        asking = self.asked(3)
        terms = (5, None, 40, 2, 4, 0)
        self.assertEqual(asking.change(2, terms, 40), 4)
        self.assertEqual(state(asking), (4, (4, ((1, *TERMS), (3, *TERMS), (4, *terms)))))
        self.refused(NoNumber, asking, "end", 2)
        asking.end(4)

    def test_change_where_four_live(self):
        asking = self.asked(4)
        self.assertEqual(asking.change(1, TERMS, 0), 5)
        self.assertEqual([question[0] for question in asking.listed()[1]], [2, 3, 4, 5])
        self.refused(TooMany, asking, "ask", TERMS, 0)

    def test_each_deed_adds_one_to_the_version(self):
        asking = Asking()
        for version, deed in enumerate((("ask", TERMS, 0), ("ask", TERMS, 0), ("change", 1, TERMS, 0), ("end", 2),
                                        ("end", 3), ("ask", TERMS, 3)), 1):
            getattr(asking, deed[0])(*deed[1:])
            self.assertEqual((asking.version(), asking.listed()[0]), (version, version))

    def test_ask_is_refused_with_too_many_ahead_of_wrong(self):
        self.refused(TooMany, self.asked(4), "ask", TERMS, 18)
        self.refused(Wrong, self.asked(3), "ask", TERMS, 18)

    def test_what_was_told_stays(self):
        asking = self.asked(1)
        told = asking.listed()
        asking.ask(TERMS, 0)
        asking.end(1)
        self.assertEqual(told, (1, ((1, *TERMS),)))

    def test_in_pythons_own_kinds(self):
        for number in (Whole, Sly):
            asking = Asking()
            terms = Pair(Pair(map(number, part)) if isinstance(part, tuple) else number(part) for part in TERMS)
            self.assertEqual((asking.ask(terms, number(17)), asking.ask(terms, number(0))), (1, 2))
            self.assertEqual(asking.change(number(1), terms, number(3)), 3)
            self.assertEqual(state(asking), (3, (3, ((2, *TERMS), (3, *TERMS)))))
            self.assertTrue(is_own(list(state(asking))))
            asking.end(number(2))
            self.assertEqual(asking.listed()[1], ((3, *TERMS),))

    def test_copied(self):
        asking = self.asked(3)
        asking.end(1)
        twin = asking.copied()
        self.assertEqual(state(twin), state(asking))
        for one, other in ((twin, asking), (asking.copied().copied(), twin)):
            before = state(other)
            one.end(2)
            self.assertEqual(one.ask(TERMS, 0), 4)
            self.assertEqual(one.change(3, TERMS, 0), 5)
            self.assertEqual(state(other), before)
        self.assertEqual(state(Asking().copied()), (0, (0, ())))


class Hearsay(unittest.TestCase):

    def test_the_greater_version_is_its_own_then(self):
        one, other = (3, ((1, *TERMS),)), (4, ())
        self.assertEqual(newer_list(one, other), other)
        self.assertEqual(newer_list(other, one), other)
        self.assertEqual(newer_list(one, one), one)
        self.assertEqual(newer_list(NO_LIST, one), one)
        self.assertEqual(newer_list((3, ()), one), (3, ()))

    def test_in_any_order_the_last_one_stays(self):
        asking = Asking()
        lists = [asking.listed()]
        for deed in (("ask", TERMS, 0), ("ask", TERMS, 0), ("end", 1), ("change", 2, TERMS, 0)):
            getattr(asking, deed[0])(*deed[1:])
            lists.append(asking.listed())
        for order in permutations(lists):
            own = NO_LIST
            for told in order + order[:2]:
                own = newer_list(own, told)
            self.assertEqual(own, asking.listed())

    def test_by_hearsay_over_a_row_of_places(self):
        for seed in range(30):
            chance = random.Random(seed)
            asking, lists = Asking(), [NO_LIST] * 5
            ever = {NO_LIST}
            for turn in range(60):
                if turn < 50 and chance.random() < 0.3:
                    if len(asking.listed()[1]) < 4:
                        asking.ask((0, None, turn, 1, 1, 0), turn)
                    else:
                        asking.end(chance.choice(asking.listed()[1])[0])
                lists[0] = asking.listed()
                ever.add(lists[0])
                for place in chance.sample(range(1, 5), 4):
                    before = lists[place]
                    if turn >= 55 or chance.random() < 0.5:
                        for near in (place - 1, min(place + 1, 4)):
                            lists[place] = newer_list(lists[place], lists[near])
                    self.assertGreaterEqual(lists[place][0], before[0])
                    self.assertIn(lists[place], ever)
            self.assertEqual(lists, [asking.listed()] * 5)


class Endings(unittest.TestCase):

    def test_an_ended_question_is_in_no_later_list(self):
        asking = Asking()
        number = asking.ask(TERMS, 0)
        asking.ask(TERMS, 0)
        asking.end(number)
        for _ in range(6):
            asking.change(asking.listed()[1][0][0], TERMS, 0)
            self.assertNotIn(number, [question[0] for question in asking.listed()[1]])


if __name__ == "__main__":
    unittest.main()
