"""Points 37 and 38, and points 2, 3 and 5 of them: answers, means, and whether an answer holds."""

import random
import unittest
from math import gcd

from listenfield.answers import answer_holds, answer_of, mean_of
from listenfield.items import item_of, merged
from things import Like, Other, Pair, Row, Sly, SlyText, Whole, is_own, strange_things

STRANGE = strange_things() + [Other(), Like(), "answer"]
A, B, C, D = (1, 5), (2, 5), (2, 6), (3, 0)
READINGS = {A: 10, B: -4, C: 0, D: 7}
ROOMS = {A: (1,), B: (0, 1), C: (2,), D: (0, 3, 9)}
SENSED = [(place, turn, reading) for (place, turn), reading in READINGS.items()]
NONE = (0, 0, None, None, None)


def of(*marks, loose=False):
    """The item of question 1 and window 2 with some marks."""
    return merged([item_of(1, 2, *mark, READINGS[mark]) for mark in marks])[:-1] + (loose,)


def answered(*items, rooms=None):
    """The answer of question 1 for window 2 in turn 9 from items, all that was sensed having its rooms."""
    return answer_of(1, 2, 9, list(items), ROOMS if rooms is None else rooms)


class SomewhatBeyond(unittest.TestCase):

    def test_marks_and_rooms_beyond_the_limits_are_told_of_all_the_same(self):
        item = item_of(1, 2, 10, 10 ** 6 + 1, 5)
        rooms = {(10, 10 ** 6 + 1): (0,), (10, 10 ** 6 + 2): (4, 12)}
        told = (1, 2, 9, ((10, 10 ** 6 + 1),), 1, 5, 5, 5, (5, 1), (((10, 10 ** 6 + 2), (4, 12)),))
        self.assertEqual(answer_of(1, 2, 9, [item], rooms), told)


class MeanOf(unittest.TestCase):

    def test_in_lowest_terms(self):
        for total, count, told in ((6, 4, (3, 2)), (8, 4, (2, 1)), (-6, 4, (-3, 2)), (0, 7, (0, 1)), (5, 1, (5, 1)),
                                   (-5, 1, (-5, 1)), (7, 3, (7, 3)), (10 ** 30, 10 ** 10, (10 ** 20, 1)),
                                   (-9, 6, (-3, 2)), (0, 1, (0, 1)), (3, 9, (1, 3))):
            self.assertEqual(mean_of(total, count), told)

    def test_of_all_small_ones(self):
        for total in range(-30, 31):
            for count in range(1, 31):
                top, bottom = mean_of(total, count)
                self.assertEqual((top * count, gcd(top, bottom)), (total * bottom, 1))
                self.assertGreaterEqual(bottom, 1)

    def test_in_pythons_own_kinds(self):
        for number in (Whole, Sly):
            told = mean_of(number(-6), number(4))
            self.assertEqual(told, (-3, 2))
            self.assertTrue(is_own(told))


class AnswerOf(unittest.TestCase):

    def test_of_all_that_was_sensed(self):
        told = (1, 2, 9, (A, B, C, D), 4, 13, -4, 10, (13, 4), ())
        self.assertEqual(answered(of(A, B, C, D)), told)
        self.assertEqual(answered(of(D), of(B), of(A), of(C)), told)
        self.assertEqual(answered(of(B, D), of(A), of(C)), told)

    def test_where_nothing_was_sensed(self):
        self.assertEqual(answered(rooms={}), (1, 2, 9, (), *NONE, ()))

    def test_where_all_lacks(self):
        self.assertEqual(answered(), (1, 2, 9, (), *NONE, ((A, (1,)), (B, (0, 1)), (C, (2,)), (D, (0, 3, 9)))))

    def test_some_lack(self):
        self.assertEqual(answered(of(A, C)), (1, 2, 9, (A, C), 2, 10, 0, 10, (5, 1), ((B, (0, 1)), (D, (0, 3, 9)))))
        self.assertEqual(answered(of(B)), (1, 2, 9, (B,), 1, -4, -4, -4, (-4, 1),
                                           ((A, (1,)), (C, (2,)), (D, (0, 3, 9)))))

    def test_items_within_others_count_for_nothing(self):
        for loose in (True, False):
            told = answered(of(A), of(A, B, loose=loose), of(B), of(D), of(A, loose=True))
            self.assertEqual(told, answered(of(A, B), of(D)))
            self.assertEqual(told[3:8], ((A, B, D), 3, 13, -4, 10))

    def test_items_of_the_same_marks_count_once(self):
        told = answered(of(A, B), of(A, B, loose=True), of(A, B), of(D, loose=True), of(D, loose=True))
        self.assertEqual(told, answered(of(A, B), of(D)))

    def test_number_window_and_turn(self):
        self.assertEqual(answer_of(7, 0, 10 ** 6 + 207, [], {}), (7, 0, 10 ** 6 + 207, (), *NONE, ()))
        items = [item_of(7, 3, 4, 5, 6)]
        self.assertEqual(answer_of(7, 3, 8, items, {(4, 5): (0,)}), (7, 3, 8, ((4, 5),), 1, 6, 6, 6, (6, 1), ()))

    def test_marks_and_what_lacks_rise(self):
        marks = [(place, turn) for place in range(10) for turn in (10, 9, 2)]
        chance = random.Random(4)
        for _ in range(50):
            chance.shuffle(marks)
            many = chance.randint(0, 30)
            told = answer_of(1, 2, 9, [item_of(1, 2, *mark, 3) for mark in marks[:many]], {mark: (4,) for mark in marks})
            self.assertEqual(told[3], tuple(sorted(marks[:many])))
            self.assertEqual(told[9], tuple((mark, (4,)) for mark in sorted(marks[many:])))
            self.assertEqual(told[4:6], (many, 3 * many))

    def test_told_twice_it_is_the_same_and_nothing_is_changed(self):
        items, rooms = [of(A, B), of(A), of(D)], dict(ROOMS)
        told = [answer_of(1, 2, 9, items, rooms) for _ in range(3)]
        self.assertEqual(told, [told[0]] * 3)
        self.assertEqual((items, rooms), ([of(A, B), of(A), of(D)], ROOMS))
        rooms[C] = (5,)
        items.clear()
        self.assertEqual(told[0], answered(of(A, B), of(D)))

    def test_in_pythons_own_kinds(self):
        for number in (Whole, Sly):
            items = Row([Pair((number(1), number(2), Pair((Pair((number(1), number(5))),)), number(10), number(10),
                               number(10), False)), of(D)])
            rooms = {Pair(mark): Pair(map(number, places)) for mark, places in ROOMS.items()}
            told = answer_of(number(1), number(2), number(9), items, rooms)
            self.assertEqual(told, answered(of(A), of(D)))
            self.assertTrue(is_own(told))


class AnswerHolds(unittest.TestCase):

    def holds(self, answer, sensed=None):
        told = answer_holds(SENSED if sensed is None else sensed, answer)
        self.assertIs(type(told), bool)
        return told

    def put(self, at, thing, answer=None):
        """An answer in which one thing is put otherwise."""
        answer = answered(of(A, B), of(D)) if answer is None else answer
        return answer[:at] + (thing,) + answer[at + 1:]

    def test_right_ones(self):
        for items in ([], [of(A)], [of(A, B), of(D)], [of(A, B, C, D)], [of(A), of(A, C), of(B, loose=True)]):
            self.assertIs(self.holds(answered(*items)), True)
        self.assertIs(self.holds(answered(rooms={}), []), True)

    def test_other_things(self):
        right = answered(of(A, B), of(D))
        for thing in STRANGE + [right[:-1], right[1:], right + (0,), list(right), (right,), [right], iter(right), 5]:
            self.assertIs(self.holds(thing), False)

    def test_each_thing_of_another_kind(self):
        full, none = answered(of(A, B), of(D)), answered()
        for at in range(10):
            for thing in STRANGE + [-1, Sly(-1), SlyText("x"), 10 ** 30, [full[at]], [none[at]]]:
                if at < 3 and type(thing) is int and thing == 10 ** 30:
                    continue
                self.assertIs(self.holds(self.put(at, thing)), False, (at, thing))
                right = thing is None if at in (6, 7, 8) else thing == () and at == 3 and isinstance(thing, tuple)
                self.assertIs(self.holds(self.put(at, thing, none)), right, (at, thing))

    def test_numbers_from_one_windows_and_turns_from_nought(self):
        for at, least in ((0, 1), (1, 0), (2, 0)):
            for number in (least, least + 1, 10 ** 6, 10 ** 6 + 1, 10 ** 30):
                self.assertIs(self.holds(self.put(at, number)), True)
            for number in (least - 1, -1, -(10 ** 30), True, False):
                self.assertIs(self.holds(self.put(at, number)), False)

    def test_each_figure_one_more_or_less(self):
        for answer in (answered(of(A, B), of(D)), answered(of(A)), answered(of(A, B, C, D))):
            for at in (4, 5, 6, 7):
                for more in (-1, 1, 10 ** 9):
                    self.assertIs(self.holds(self.put(at, answer[at] + more, answer)), False)
            top, bottom = answer[8]
            for mean in ((top + 1, bottom), (top, bottom + 1), (2 * top, 2 * bottom), (-top, -bottom), [top, bottom],
                         (top,), (top, bottom, 1), top, None, (), (float(top), bottom), (str(top), bottom), (top, None)):
                self.assertIs(self.holds(self.put(8, mean, answer)), False, mean)
            for at in (6, 7, 8):
                self.assertIs(self.holds(self.put(at, None, answer)), False)

    def test_without_marks_there_are_no_figures(self):
        none = answered()
        for at, things in ((4, (1, None, False)), (5, (1, None, False)), (6, (0, False)), (7, (0, False)),
                           (8, ((0, 1), 0, (0, 0)))):
            for thing in things:
                self.assertIs(self.holds(self.put(at, thing, none)), False, (at, thing))

    def test_truths_are_no_figures(self):
        sensed = [(1, 5, 1)]
        right = (1, 2, 9, (A,), 1, 1, 1, 1, (1, 1), ())
        self.assertIs(self.holds(right, sensed), True)
        for at in (0, 4, 5, 6, 7):
            self.assertIs(self.holds(self.put(at, True, right), sensed), False)
        for mean in ((True, 1), (1, True), (True, True)):
            self.assertIs(self.holds(self.put(8, mean, right), sensed), False)
        self.assertIs(self.holds(self.put(3, ((True, 5),), right), sensed), False)

    def test_marks_rise_and_are_marks(self):
        right = answered(of(A, B), of(D))
        for marks in ((B, A, D), (A, D, B), (A, B, D, D), (A, A, B, D), [A, B, D], (A, B, list(D)), (A, B, D + (0,)),
                      (A, B), (A, B, C), (A, B, C, D), (), (A, B, None), A, ((10, 0), A, B, D), {A: 1, B: 2, D: 3}):
            self.assertIs(self.holds(self.put(3, marks, right)), False, marks)

    def test_what_lacks_rises_and_has_rooms(self):
        right = answered(of(A))
        self.assertEqual(right[9], ((B, (0, 1)), (C, (2,)), (D, (0, 3, 9))))
        more = right[9]
        self.assertIs(self.holds(self.put(9, ((B, (5,)), (C, (0, 9)), (D, (4,))), right)), True)
        for lacks in (more[::-1], (more[1], more[0], more[2]), more + more[-1:], more[:2], more[1:], (), list(more),
                      more[:2] + ((D, ()),), more[:2] + ((D, [3]),), more[:2] + ((D, (3, 0)),), more[:2] + ((D, (3, 3)),),
                      more[:2] + ((D, (10,)),), more[:2] + ((D, (-1,)),), more[:2] + ((D, 3),), more[:2] + ((D,),),
                      more[:2] + ((D, (3,), 0),), more[:2] + ([D, (3,)],), more[:2] + (((3,), D),), more[:2] + (D,),
                      more[:2] + ((D, None),), more[:2] + (None,), more[:2] + ((D, (True,)),), more[:2] + ((None, (3,)),),
                      more[:2] + (((3, 1), (3,)),), ((A, (1,)),) + more, more[:2] + ((list(D), (3,)),),
                      more[:2] + (((3, 0, 0), (3,)),), more[:2] + ((D, "3"),), more[:2] + ((D, {3}),)):
            self.assertIs(self.holds(self.put(9, lacks, right)), False, lacks)

    def test_each_that_was_sensed_is_there_just_once(self):
        right = answered(of(A, B), of(D))
        self.assertIs(self.holds(self.put(9, ((A, (1,)), (C, (2,))), right)), False)
        self.assertIs(self.holds(self.put(9, (), right)), False)
        self.assertIs(self.holds(right, SENSED[:-1]), False)
        self.assertIs(self.holds(right, SENSED + [(4, 0, 3)]), False)
        self.assertIs(self.holds(right, []), False)
        self.assertIs(self.holds(right, [row if row[:2] != C else (2, 7, 0) for row in SENSED]), False)

    def test_readings_are_those_sensed(self):
        right = answered(of(A, B), of(D))
        for at, row in enumerate(SENSED):
            wrong = SENSED[:at] + [row[:2] + (row[2] + 1,)] + SENSED[at + 1:]
            self.assertIs(self.holds(right, wrong), row[:2] == C)
        for seed in range(5):
            self.assertIs(self.holds(right, random.Random(seed).sample(SENSED, 4)), True)

    def test_of_many_runs(self):
        for seed in range(100):
            chance = random.Random(seed)
            sensed = [(place, turn, chance.randint(-5, 5)) for place in range(4) for turn in range(3)
                      if chance.random() < 0.6]
            came = [row for row in sensed if chance.random() < 0.6]
            items = [item_of(3, 1, *row) for row in came]
            if came and chance.random() < 0.5:
                items.append(merged(chance.sample(items, chance.randint(1, len(items)))))
            rooms = {row[:2]: tuple(sorted(chance.sample(range(5), chance.randint(1, 3)))) for row in sensed}
            told = answer_of(3, 1, 20, items, rooms)
            self.assertIs(self.holds(told, sensed), True)
            figures = [reading for _, _, reading in came]
            self.assertEqual(told[3:6], (tuple(sorted(row[:2] for row in came)), len(came), sum(figures)))
            self.assertEqual(told[6:8], (min(figures, default=None), max(figures, default=None)))
            if came:
                self.assertEqual(told[8][0] * len(came), told[8][1] * sum(figures))

    def test_of_classes_beneath(self):
        def deep(thing, number):
            if isinstance(thing, tuple):
                return Pair(deep(part, number) for part in thing)
            return number(thing) if type(thing) is int else thing

        right = answered(of(A, B), of(D))
        for number in (Whole, Sly):
            self.assertIs(self.holds(deep(right, number), Row([deep(row, number) for row in SENSED])), True)
            for at, thing in ((4, 4), (5, 14), (6, -5), (7, 11), (8, (13, 4)), (3, (A, C, D)), (0, 0), (1, -1), (2, -1)):
                self.assertIs(self.holds(deep(self.put(at, thing), number)), False)
        self.assertIs(self.holds(self.put(8, Pair((Whole(13), 3)))), True)

    def test_the_same_is_told_again_and_nothing_is_changed(self):
        sensed = list(SENSED)
        self.assertEqual([self.holds(answered(of(A)), sensed) for _ in range(3)], [True] * 3)
        self.assertEqual(sensed, SENSED)


if __name__ == "__main__":
    unittest.main()
