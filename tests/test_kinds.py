"""Points 2 and 12: of whatever is handed in it is told what it is."""

import unittest

from listenfield import kinds
from things import Like, Other, Pair, Row, Sly, SlyText, Text, Whole, is_own, strange_things

QUESTIONS = ["is_whole", "is_place", "is_turn", "is_size", "is_shift", "is_sort", "is_plan", "is_mark", "are_marks"]
BOUNDS = {
    "is_place": (0, 9),
    "is_turn": (0, 10 ** 6),
    "is_size": (0, 10 ** 9),
    "is_shift": (-(10 ** 9), 10 ** 9),
    "is_sort": (0, 9),
}
NUMBERS = sorted({number + by for low, high in BOUNDS.values() for number in (low, high) for by in (-1, 0, 1)}
                 | {5, -5, 10 ** 30, -(10 ** 30), 2 ** 63, -(2 ** 63), 2 ** 63 - 1, 1 << 70000})


def answers(thing):
    """What each of the nine questions tells of the thing."""
    return {name: getattr(kinds, name)(thing) for name in QUESTIONS}


def yes_of(thing):
    """The questions that the thing is answered True by."""
    return sorted(name for name, told in answers(thing).items() if told)


class Numbers(unittest.TestCase):

    def test_each_whole_number_is_whole(self):
        for number in NUMBERS:
            self.assertIs(kinds.is_whole(number), True)

    def test_bounds_are_in_and_one_beyond_is_out(self):
        for name, (low, high) in BOUNDS.items():
            ask = getattr(kinds, name)
            for number in (low, low + 1, (low + high) // 2, high - 1, high):
                self.assertIs(ask(number), True, (name, number))
            for number in (low - 1, high + 1, -(10 ** 30), 10 ** 30):
                self.assertIs(ask(number), False, (name, number))

    def test_truths_are_no_numbers(self):
        for truth in (True, False):
            for name in QUESTIONS:
                self.assertIs(getattr(kinds, name)(truth), False, name)

    def test_numbers_with_a_point_are_none(self):
        for number in (0.0, 1.0, -1.0, 9.5, float("inf"), float("nan"), 1j):
            self.assertEqual(yes_of(number), [])

    def test_numbers_of_classes_beneath_are_as_their_number(self):
        for number in NUMBERS:
            self.assertEqual(answers(Whole(number)), answers(number), number)

    def test_the_number_itself_is_asked_whatever_its_class_tells(self):
        for number in NUMBERS:
            self.assertEqual(answers(Sly(number)), answers(number), number)

    def test_numbers_are_no_plans_and_no_marks(self):
        for number in NUMBERS:
            for name in ("is_plan", "is_mark", "are_marks"):
                self.assertIs(getattr(kinds, name)(number), False)


class Plans(unittest.TestCase):

    def test_one_to_eight_signs(self):
        for plan in ("w", "s", "ws", "sw", "wwww", "ssssssss", "wswswsws", "w" * 8):
            self.assertEqual(yes_of(plan), ["is_plan"], plan)

    def test_none_and_nine_signs_are_none(self):
        for plan in ("", "w" * 9, "ws" * 5, "s" * 1000):
            self.assertEqual(yes_of(plan), [], plan)

    def test_other_signs_are_none(self):
        for plan in ("W", "S", "x", " ", "w ", " w", "w\n", "\nw", "wxs", "w,s", "0", "\0", "ww\0", "\u0455", "\uff57"):
            self.assertEqual(yes_of(plan), [], plan)

    def test_each_place_in_the_text_counts(self):
        for length in range(1, 9):
            for at in range(length):
                plan = "w" * at + "v" + "w" * (length - at - 1)
                self.assertIs(kinds.is_plan(plan), False, plan)

    def test_other_rows_of_signs_are_none(self):
        for thing in (b"w", b"ws", ["w"], ("w", "s"), {"w"}, {"w": "s"}, ["w", "s"], bytearray(b"w")):
            self.assertIs(kinds.is_plan(thing), False)

    def test_texts_of_classes_beneath_are_as_their_signs(self):
        for make in (Text, SlyText):
            self.assertIs(kinds.is_plan(make("wsw")), True)
            for plan in ("", "x", "w" * 9, "wx"):
                self.assertIs(kinds.is_plan(make(plan)), False, plan)


class Marks(unittest.TestCase):

    def test_place_and_turn(self):
        for mark in ((0, 0), (9, 10 ** 6), (3, 17), (0, 10 ** 6), (9, 0)):
            self.assertEqual(yes_of(mark), ["is_mark"], mark)

    def test_one_beyond_is_none(self):
        for mark in ((-1, 0), (10, 0), (0, -1), (0, 10 ** 6 + 1), (10, 10 ** 6 + 1)):
            self.assertEqual(yes_of(mark), [], mark)

    def test_other_lengths_are_none(self):
        for mark in ((), (0,), (0, 0, 0), (0, 1, 2)):
            self.assertEqual(yes_of(mark), [], mark)

    def test_other_things_in_it_are_none(self):
        for thing in strange_things():
            self.assertIs(kinds.is_mark((thing, 0)), False)
            self.assertIs(kinds.is_mark((0, thing)), False)

    def test_lists_and_texts_are_none(self):
        for thing in ([0, 0], [0], "00", "01", b"\0\0", {0: 0}, {0, 1}, range(2), iter((0, 0))):
            self.assertIs(kinds.is_mark(thing), False)

    def test_of_classes_beneath(self):
        self.assertIs(kinds.is_mark(Pair((0, 1))), True)
        self.assertIs(kinds.is_mark((Whole(9), Sly(3))), True)
        self.assertIs(kinds.is_mark((Sly(10), 3)), False)
        self.assertIs(kinds.is_mark(Pair((0,))), False)


class RowsOfMarks(unittest.TestCase):

    def test_one_or_more_that_rise(self):
        for marks in (((0, 0),), ((0, 0), (0, 1)), ((0, 9), (1, 0)), ((0, 1), (0, 3), (2, 0), (9, 10 ** 6))):
            self.assertEqual(yes_of(marks), ["are_marks"], marks)

    def test_none_is_no_row(self):
        self.assertIs(kinds.are_marks(()), False)

    def test_those_that_do_not_rise_are_none(self):
        for marks in (((0, 0), (0, 0)), ((0, 1), (0, 0)), ((1, 0), (0, 9)), ((0, 0), (1, 1), (1, 1)),
                      ((0, 0), (2, 0), (1, 0)), ((2, 0), (0, 0), (1, 0))):
            self.assertIs(kinds.are_marks(marks), False, marks)

    def test_one_wrong_among_them(self):
        for wrong in strange_things() + [(10, 0), (0, 10 ** 6 + 1), (-1, 0), [0, 0]]:
            self.assertIs(kinds.are_marks((wrong,)), False)
            self.assertIs(kinds.are_marks(((0, 0), wrong)), False)
            self.assertIs(kinds.are_marks((wrong, (9, 9))), False)

    def test_lists_and_a_mark_alone_are_none(self):
        for thing in ([(0, 0)], [(0, 0), (0, 1)], (0, 0), {(0, 0)}, {(0, 0): 1}, "00", [[0, 0]], ([0, 0],)):
            self.assertIs(kinds.are_marks(thing), False)

    def test_of_classes_beneath(self):
        self.assertIs(kinds.are_marks(Pair((Pair((0, 1)), (Whole(0), Sly(2))))), True)
        self.assertIs(kinds.are_marks(Pair((Pair((0, 1)), (Whole(0), Sly(1))))), False)
        self.assertIs(kinds.are_marks(Row([(0, 1)])), False)
        for make in (Whole, Sly):
            marks = ((make(0), make(5)), (make(1), make(3)), (make(1), make(4)))
            self.assertIs(kinds.are_marks(marks), True)
            self.assertIs(kinds.are_marks((marks[1], marks[0])), False)
            self.assertIs(kinds.are_marks((marks[2], marks[1])), False)
            self.assertIs(kinds.are_marks((marks[0], marks[0])), False)


class Whatever(unittest.TestCase):

    def test_each_question_is_answered_by_a_truth(self):
        looped = []
        looped.append(looped)
        for thing in strange_things() + NUMBERS + [looped, (looped,), (0, looped), Like(), Other(), Row(), Pair()]:
            for told in answers(thing).values():
                self.assertIs(type(told), bool)

    def test_strange_things_are_no_kind_of_number_or_mark(self):
        for thing in strange_things():
            self.assertEqual(yes_of(thing), ["is_plan"] if thing == "w" and isinstance(thing, str) else [])

    def test_nothing_is_changed_and_the_same_is_told_again(self):
        inner = [0, 1]
        thing = ((0, 1), inner)
        for _ in range(3):
            self.assertEqual(yes_of(thing), [])
        self.assertEqual(inner, [0, 1])
        self.assertTrue(is_own(answers((0, 1))["is_mark"]))


if __name__ == "__main__":
    unittest.main()
