"""Points 27 and 28, and points 2 and 3 of them: items, merged ones, laminar ones, the greatest ones."""

import random
import unittest
from itertools import combinations, permutations

from listenfield.items import greatest, is_item, is_laminar, item_of, lies_within, merged
from things import Like, Other, Pair, Row, Sly, Whole, is_own, strange_things, subsets

STRANGE = strange_things() + [Other(), Like(), -1, "item"]
RIGHT = (1, 0, ((2, 5), (3, 4)), 7, 3, 4, False)
A, B, C, D = (1, 5), (2, 5), (2, 6), (3, 0)


def of(*marks, number=1, window=0, loose=False):
    """An item of some marks, each of which has its place's and its turn's sum for a reading."""
    readings = [place + turn for place, turn in marks]
    return number, window, tuple(sorted(marks)), sum(readings), min(readings), max(readings), loose


def deep(thing, number):
    """The thing, all numbers in it of another class, and its tuples too."""
    if isinstance(thing, tuple):
        return Pair(deep(part, number) for part in thing)
    return number(thing) if type(thing) is int else thing


class SomewhatBeyond(unittest.TestCase):

    def test_marks_beyond_the_limits_are_told_of_all_the_same(self):
        one, other = item_of(1, 0, 10, 3, 5), item_of(1, 0, 2, 10 ** 6 + 1, -4)
        both = (1, 0, ((2, 10 ** 6 + 1), (10, 3)), 1, -4, 5, False)
        self.assertEqual([is_item(item) for item in (one, other, both)], [False] * 3)
        self.assertEqual(merged([one, other]), both)
        self.assertIs(lies_within(one, both), True)
        self.assertIs(lies_within(both, one), False)
        self.assertIs(is_laminar([one, other, both]), True)
        self.assertEqual(greatest([one, both, other]), [both])


class IsItem(unittest.TestCase):

    def test_right_ones(self):
        for thing in (RIGHT, (1, 0, ((0, 0),), 0, 0, 0, True), (10 ** 30, 10 ** 30, ((9, 10 ** 6),), 1, 2, 3, False),
                      (1, 0, ((0, 0),), -(10 ** 30), 10 ** 30, -(10 ** 30), False), of(A, B, C, D, loose=True)):
            self.assertIs(is_item(thing), True, thing)

    def test_other_things(self):
        for thing in STRANGE + [RIGHT[:-1], RIGHT[1:], RIGHT + (0,), list(RIGHT), dict.fromkeys(RIGHT), iter(RIGHT),
                                (RIGHT,), [RIGHT], 5]:
            self.assertIs(is_item(thing), False)

    def test_each_part_put_otherwise(self):
        for at in range(7):
            for thing in STRANGE + [Sly(-1)]:
                wrong = RIGHT[:at] + (thing,) + RIGHT[at + 1:]
                right = at in (3, 4, 5) and thing == -1 and isinstance(thing, int) or at == 6 and isinstance(thing, bool)
                self.assertIs(is_item(wrong), right, wrong)

    def test_numbers_from_one_windows_from_nought(self):
        for number in (1, 2, 10 ** 9, 10 ** 30):
            self.assertIs(is_item((number,) + RIGHT[1:]), True)
        for number in (0, -1, -(10 ** 30), True, "1", None):
            self.assertIs(is_item((number,) + RIGHT[1:]), False)
        for window in (0, 1, 10 ** 30):
            self.assertIs(is_item((1, window) + RIGHT[2:]), True)
        for window in (-1, -(10 ** 30), False, "0", None):
            self.assertIs(is_item((1, window) + RIGHT[2:]), False)

    def test_marks_rise_and_are_one_or_more(self):
        for marks in ((A,), (A, B), (A, B, C, D), ((0, 0), (9, 10 ** 6))):
            self.assertIs(is_item((1, 0, marks, 0, 0, 0, False)), True)
        for marks in ((), (B, A), (A, A), (A, B, B), (A, None), [A, B], (list(A),), A, ((10, 0),), ((0, 10 ** 6 + 1),),
                      ((-1, 0),), ((0, -1),), (A, B, C, D, D), ((True, 0),), {A}, {A: B}, "ab"):
            self.assertIs(is_item((1, 0, marks, 0, 0, 0, False)), False, marks)

    def test_loose_is_a_truth(self):
        for loose in (0, 1, None, "", "True", (), [], Like(), Sly(1)):
            self.assertIs(is_item(RIGHT[:-1] + (loose,)), False)

    def test_of_classes_beneath(self):
        for number in (Whole, Sly):
            self.assertIs(is_item(deep(RIGHT, number)), True)
            self.assertIs(is_item((number(0),) + RIGHT[1:]), False)
            self.assertIs(is_item((1, number(-1)) + RIGHT[2:]), False)
            self.assertIs(is_item(RIGHT[:2] + (deep((B, A), number),) + RIGHT[3:]), False)
            self.assertIs(is_item(RIGHT[:2] + (deep((A, A), number),) + RIGHT[3:]), False)


class ItemOf(unittest.TestCase):

    def test_what_is_sensed(self):
        self.assertEqual(item_of(3, 4, 2, 17, -5), (3, 4, ((2, 17),), -5, -5, -5, False))
        self.assertEqual(item_of(1, 0, 0, 0, 0), (1, 0, ((0, 0),), 0, 0, 0, False))
        self.assertEqual(item_of(1, 10 ** 30, 9, 10 ** 6, 10 ** 9)[2:], (((9, 10 ** 6),), 10 ** 9, 10 ** 9, 10 ** 9, False))
        self.assertIs(is_item(item_of(3, 4, 2, 17, -5)), True)

    def test_in_pythons_own_kinds(self):
        for number in (Whole, Sly):
            told = item_of(number(3), number(4), number(2), number(17), number(-5))
            self.assertEqual(told, (3, 4, ((2, 17),), -5, -5, -5, False))
            self.assertTrue(is_own(told))


class Merged(unittest.TestCase):

    def test_two(self):
        self.assertEqual(merged([item_of(2, 3, 4, 5, 10), item_of(2, 3, 1, 9, -7)]),
                         (2, 3, ((1, 9), (4, 5)), 3, -7, 10, False))

    def test_one_alone(self):
        self.assertEqual(merged([of(A, B)]), of(A, B))
        self.assertEqual(merged([of(A, B, loose=True)]), of(A, B))

    def test_in_any_order_and_by_any_parts(self):
        parts = [of(A), of(B, D), of(C)]
        for chosen in permutations(parts):
            self.assertEqual(merged(list(chosen)), of(A, B, C, D))
            self.assertEqual(merged([merged(list(chosen[:2])), chosen[2]]), of(A, B, C, D))

    def test_loose_ones_are_loose_no_more(self):
        self.assertEqual(merged([of(A, loose=True), of(B, loose=True)]), of(A, B))

    def test_marks_rise(self):
        self.assertEqual(merged([of((9, 0)), of((0, 9)), of((0, 10), (8, 8))])[2], ((0, 9), (0, 10), (8, 8), (9, 0)))

    def test_the_figures_that_the_items_tell_count(self):
        one, other = (1, 2, (A,), 100, -5, 50, False), (1, 2, (B,), 11, 4, 70, True)
        self.assertEqual(merged([one, other]), (1, 2, (A, B), 111, -5, 70, False))

    def test_nothing_is_changed_and_it_is_pythons_own(self):
        items = Row([deep(of(A, C), Whole), deep(of(B), Sly)])
        kept = list(items)
        told = merged(items)
        self.assertEqual(told, of(A, B, C))
        self.assertTrue(is_own(told))
        self.assertTrue(all(one is other for one, other in zip(items, kept)) and len(items) == 2)


class LiesWithin(unittest.TestCase):

    def test_where_all_marks_are_the_other_ones(self):
        marks = [A, B, C, D]
        for one in subsets(marks)[1:]:
            for other in subsets(marks)[1:]:
                for loose, free in ((False, False), (True, False), (False, True), (True, True)):
                    told = lies_within(of(*one, loose=loose), of(*other, loose=free))
                    self.assertIs(told, set(one) <= set(other))

    def test_of_the_same_question_and_window(self):
        self.assertIs(lies_within(of(A), of(A)), True)
        self.assertIs(lies_within(of(A, number=2), of(A)), False)
        self.assertIs(lies_within(of(A, window=2), of(A)), False)
        self.assertIs(lies_within(of(A), of(A, B, window=1)), False)
        self.assertIs(lies_within(of(A, number=3, window=4), of(A, B, number=3, window=4)), True)
        self.assertIs(lies_within(of(A, number=3, window=4), of(A, B, number=4, window=3)), False)

    def test_figures_do_not_count(self):
        self.assertIs(lies_within((1, 0, (A,), 5, 5, 5, False), (1, 0, (A, B), -9, 7, 8, True)), True)

    def test_of_classes_beneath(self):
        for number in (Whole, Sly):
            for make in (lambda thing: thing, lambda thing: deep(thing, number)):
                self.assertIs(lies_within(deep(of(A), number), make(of(A, B))), True)
                self.assertIs(lies_within(make(of(A, B)), deep(of(A), number)), False)
                self.assertIs(lies_within(deep(of(A, number=2), number), make(of(A, B))), False)


class IsLaminar(unittest.TestCase):

    def test_none_and_one(self):
        self.assertIs(is_laminar([]), True)
        self.assertIs(is_laminar([of(A, B)]), True)

    def test_within_or_apart(self):
        for items, told in (
                ([of(A), of(B)], True), ([of(A), of(A, B)], True), ([of(A, B), of(B, C)], False),
                ([of(A), of(B), of(A, B), of(A, B, C), of(D)], True), ([of(A, B), of(C, D), of(A, C)], False),
                ([of(A), of(A)], True), ([of(A), of(A, loose=True)], True), ([of(A, B, C), of(B, C, D)], False),
                ([of(A, B), of(C), of(A, C)], False)):
            for chosen in permutations(items):
                self.assertIs(is_laminar(list(chosen)), told, items)

    def test_of_one_question_and_window_alone(self):
        self.assertIs(is_laminar([of(A, B), of(B, C, window=1)]), True)
        self.assertIs(is_laminar([of(A, B), of(B, C, number=2)]), True)
        self.assertIs(is_laminar([of(A, B, number=2, window=1), of(B, C, number=2, window=1)]), False)
        self.assertIs(is_laminar([of(A, B), of(B, C, number=2), of(A, D)]), False)

    def test_as_looking_at_each_two_tells(self):
        chance = random.Random(7)
        for _ in range(300):
            items = [of(*chance.sample([A, B, C, D, (0, 0)], chance.randint(1, 3)), window=chance.randint(0, 1))
                     for _ in range(chance.randint(0, 5))]
            told = all(one[1] != other[1] or set(one[2]) <= set(other[2]) or set(other[2]) <= set(one[2])
                       or not set(one[2]) & set(other[2]) for one, other in combinations(items, 2))
            self.assertIs(is_laminar(items), told)
            self.assertIs(is_laminar(tuple(items)), told)

    def test_of_classes_beneath(self):
        for number in (Whole, Sly):
            self.assertIs(is_laminar(Row([deep(of(A, B), number), of(A), deep(of(C), number)])), True)
            self.assertIs(is_laminar(Row([deep(of(A, B), number), deep(of(B, C), number)])), False)


class Greatest(unittest.TestCase):

    def test_none(self):
        self.assertEqual(greatest([]), [])

    def test_those_within_no_other_one(self):
        for items, told in (
                ([of(A)], [of(A)]), ([of(A), of(B)], [of(A), of(B)]), ([of(A), of(A, B)], [of(A, B)]),
                ([of(A), of(B), of(A, B), of(D), of(A, B, C)], [of(A, B, C), of(D)]),
                ([of(A, B), of(B, C), of(B)], [of(A, B), of(B, C)])):
            for chosen in permutations(items):
                self.assertEqual(greatest(list(chosen)), told)

    def test_of_the_same_marks_one_not_loose_where_there_is_such(self):
        loose, tight = of(A, B, loose=True), of(A, B)
        for items, told in (([loose], [loose]), ([loose, loose], [loose]), ([tight, tight], [tight]),
                            ([tight, loose], [tight]), ([loose, tight, loose], [tight])):
            for chosen in permutations(items):
                self.assertEqual(greatest(list(chosen)), told)

    def test_a_loose_greater_one_goes_ahead_of_lesser_ones(self):
        for items in permutations([of(A), of(B), of(A, B, loose=True), of(A, loose=True)]):
            self.assertEqual(greatest(list(items)), [of(A, B, loose=True)])

    def test_in_the_order_of_questions_windows_and_marks(self):
        told = [of(D), of(A, window=1), of(B, window=1), of(A, number=2), of(A, number=2, window=3), of(A, number=10)]
        chance = random.Random(3)
        for _ in range(50):
            items = chance.sample(told, len(told))
            self.assertEqual(greatest(items), told)

    def test_marks_in_order_of_all_their_marks(self):
        told = [of(A, D), of(B, C, (4, 0)), of((3, 9))]
        for items in permutations(told):
            self.assertEqual(greatest(list(items)), told)

    def test_of_other_questions_and_windows_apart(self):
        items = [of(A), of(A, B, window=1), of(A, number=2), of(A, B, number=2)]
        self.assertEqual(greatest(items), [of(A), of(A, B, window=1), of(A, B, number=2)])

    def test_the_list_is_a_new_one_and_nothing_is_changed(self):
        items = [of(A, B), of(A)]
        told = greatest(items)
        told.append("more")
        self.assertEqual((items, greatest(items)), ([of(A, B), of(A)], [of(A, B)]))

    def test_in_pythons_own_kinds(self):
        for number in (Whole, Sly):
            told = greatest(Row([deep(of(A), number), deep(of(B, C), number), of(A)]))
            self.assertEqual(told, [of(A), of(B, C)])
            self.assertTrue(is_own(told))

    def test_of_laminar_ones_they_have_each_mark_once(self):
        chance = random.Random(11)
        marks = [(place, turn) for place in range(4) for turn in range(3)]
        for _ in range(200):
            items = [of(mark) for mark in marks]
            tops = list(items)
            while len(tops) > 1 and chance.random() < 0.8:
                chosen = chance.sample(tops, chance.randint(2, min(3, len(tops))))
                tops = [item for item in tops if item not in chosen] + [merged(chosen)]
                items.append(tops[-1])
            items += [item[:-1] + (True,) for item in items if chance.random() < 0.3]
            chance.shuffle(items)
            self.assertIs(is_laminar(items), True)
            told = greatest(items)
            self.assertEqual(sorted(mark for item in told for mark in item[2]), marks)
            self.assertEqual(sum(item[3] for item in told), sum(map(sum, marks)))
            self.assertEqual(sorted(told), sorted(tops))


if __name__ == "__main__":
    unittest.main()
