"""Point 51, and points 2 and 3 of it: ways by takings, papers of these, and why a mark lacked."""

import random
import unittest
from itertools import combinations, product

from listenfield.tracks import reason_of, way_holds, way_to
from listenfield.webs import Web
from things import Pair, Row, Sly, Whole, all_pairs, is_own, living_lists, ring_pairs, row_pairs, strange_things

MARK = (3, 5)
BIT = (2, MARK)


def taking(turn, speaker, hearer, *bits, number=1):
    """A taking of question 1, which bears the mark where no bits are told."""
    return turn, speaker, hearer, number, bits or (BIT,)


A = taking(5, 3, 2)
B = taking(6, 2, 1)
C = taking(6, 1, 0)
TAKINGS = [taking(4, 2, 1, (2, (2, 4))), A, taking(6, 3, 2, (2, (3, 6))), B, taking(6, 2, 1, number=2), C]


def way(place, takings=TAKINGS, *, number=1, window=2, mark=MARK):
    """The way of the mark to a place."""
    return way_to(takings, number, window, mark, place)


def holds(told, place=0, takings=TAKINGS, *, number=1, window=2, mark=MARK):
    """Whether a way of the mark holds."""
    return way_holds(takings, number, window, mark, place, told)


class WayTo(unittest.TestCase):

    def test_step_by_step(self):
        self.assertEqual([way(place) for place in range(5)], [[A, B, C], [A, B], [A], [], None])

    def test_only_takings_that_bear_it(self):
        for number, window, mark in ((2, 2, MARK), (1, 1, MARK), (1, 2, (3, 4)), (1, 3, MARK)):
            self.assertIsNone(way(0, number=number, window=window, mark=mark))
        self.assertEqual(way(1, number=2, mark=MARK, takings=[taking(1, 3, 1, number=2)]),
                         [taking(1, 3, 1, number=2)])
        self.assertEqual(way(2, mark=(3, 6)), [TAKINGS[2]])
        both = taking(7, 3, 2, (0, (3, 1)), BIT, (2, (3, 6)))
        self.assertEqual(way(2, [both]), [both])

    def test_none_of_no_takings_but_to_its_own_place(self):
        self.assertEqual([way(place, []) for place in range(5)], [None, None, None, [], None])

    def test_the_order_of_all_is_kept(self):
        self.assertIsNone(way(0, [C, B, A]))
        self.assertIsNone(way(1, [B, A]))
        self.assertEqual(way(2, [C, B, A]), [A])
        self.assertIsNone(way(0, [A, C, B]))

    def test_of_one_turn_the_order_in_the_list_counts(self):
        one, other = taking(6, 3, 2), taking(6, 2, 0)
        self.assertEqual(way(0, [one, other]), [one, other])
        self.assertIsNone(way(0, [other, one]))

    def test_the_one_whose_last_taking_stands_first(self):
        short = taking(8, 3, 0)
        long = [taking(5, 3, 1), taking(6, 1, 2), taking(7, 2, 0)]
        self.assertEqual(way(0, [*long, short]), long)
        self.assertEqual(way(0, [short, *long]), [short])
        self.assertEqual(way(0, [long[0], long[1], short, long[2]]), [short])

    def test_and_so_to_each_place_on_it(self):
        first, second, last = taking(5, 3, 1), taking(6, 3, 1), taking(7, 1, 0)
        self.assertEqual(way(0, [first, second, last]), [first, last])
        round_about = [taking(5, 3, 2), taking(6, 2, 1), taking(7, 3, 1), taking(8, 1, 0)]
        self.assertEqual(way(0, round_about), [round_about[0], round_about[1], round_about[3]])

    def test_what_comes_back_to_its_own_place(self):
        self.assertEqual(way(3, [taking(5, 3, 2), taking(6, 2, 3)]), [])

    def test_a_new_list_of_pythons_own(self):
        takings = [taking(5, 3, 2), taking(6, 2, 1)]
        told = way(1, takings)
        told.clear()
        self.assertEqual(takings, [taking(5, 3, 2), taking(6, 2, 1)])
        self.assertEqual(len(way(1, takings)), 2)
        rows = Row([Pair(Whole(part) if isinstance(part, int) else Pair(
            Pair((Whole(window), Pair(map(Whole, mark)))) for window, mark in part) for part in row)
            for row in TAKINGS])
        told = way_to(rows, Whole(1), Whole(2), Pair(map(Whole, MARK)), Whole(0))
        self.assertEqual(told, [A, B, C])
        self.assertTrue(is_own(told))

    def test_against_all_lists_of_takings(self):
        rng = random.Random(51)
        for _ in range(150):
            takings = []
            for turn in range(rng.randint(0, 7)):
                speaker, hearer = rng.sample(range(4), 2)
                bits = rng.choice(((BIT,), (BIT, (3, MARK)), ((3, MARK),), (BIT,), ((1, (2, 2)), BIT)))
                takings.append((turn, speaker, hearer, rng.choice((1, 1, 1, 2)), bits))
            for place in range(4):
                ways = [list(chosen) for size in range(len(takings) + 1) for chosen in combinations(takings, size)
                        if is_way(list(chosen), place)]
                told = way(place, takings)
                if not ways:
                    self.assertIsNone(told)
                    continue
                self.assertIn(told, ways)
                ends = [takings.index(each[-1]) if each else -1 for each in ways]
                self.assertEqual(takings.index(told[-1]) if told else -1, min(ends))
                for size in range(len(told)):
                    self.assertEqual(way(told[size][1], takings), told[:size])
                for each in ways:
                    self.assertIs(holds(each, place, takings), True)


def is_way(takings, place):
    """Whether takings in their order lead the mark to a place."""
    ends = [MARK[0], *[row[2] for row in takings]]
    return (all(row[3] == 1 and BIT in row[4] for row in takings) and ends[-1] == place
            and [row[1] for row in takings] == ends[:-1])


class WayHolds(unittest.TestCase):

    def test_right_ones(self):
        self.assertIs(holds([A, B, C]), True)
        self.assertIs(holds([A, B], 1), True)
        self.assertIs(holds([A], 2), True)
        self.assertIs(holds([], 3), True)

    def test_no_takings_to_another_place(self):
        for place in (0, 1, 2, 4):
            self.assertIs(holds([], place), False)

    def test_to_another_place(self):
        for place in range(1, 5):
            self.assertIs(holds([A, B, C], place), False)

    def test_one_left_out_or_put_elsewhere(self):
        for told in ([A, C], [B, C], [A, B], [A, C, B], [C, B, A], [B, A, C], [A, A, B, C], [A, B, B, C], [A, B, C, C]):
            self.assertIs(holds(told), False, told)

    def test_what_is_no_taking_of_the_list(self):
        for at, row in enumerate((A, B, C)):
            for part, otherwise in ((0, 7), (1, 4), (2, 4), (3, 2), (4, ((2, (3, 6)),)), (4, (BIT, BIT)), (4, ())):
                told = [A, B, C]
                told[at] = row[:part] + (otherwise,) + row[part + 1:]
                self.assertIs(holds(told), False, told)

    def test_what_does_not_bear_it(self):
        for number, window, mark in ((2, 2, MARK), (1, 1, MARK), (1, 2, (3, 4)), (1, 2, (2, 5))):
            self.assertIs(holds([A, B, C], number=number, window=window, mark=mark), False)
        other = taking(6, 2, 1, (2, (2, 5)))
        self.assertIs(holds([A, other, C], takings=[A, other, C]), False)
        other = taking(6, 2, 1, number=2)
        self.assertIs(holds([A, other, C], takings=[A, other, C]), False)

    def test_out_of_the_order_of_all(self):
        self.assertIs(holds([A, B, C], takings=[B, A, C]), False)
        self.assertIs(holds([A, B, C], takings=[A, C, B]), False)
        self.assertIs(holds([A, B, C], takings=[B, A, C, B, C]), True)

    def test_another_way_than_the_first_one_holds(self):
        first, second, last = taking(5, 3, 1), taking(6, 3, 1), taking(7, 1, 0)
        for told in ([first, last], [second, last]):
            self.assertIs(holds(told, 0, [first, second, last]), True)

    def test_each_taking_bears_it_once(self):
        there, back = taking(5, 3, 2), taking(6, 2, 3)
        self.assertIs(holds([there, back, there], 2, [there, back]), False)
        self.assertIs(holds([there, back, there], 2, [there, back, there]), True)

    def test_other_things(self):
        for thing in strange_things() + [(A, B, C), ((A, B, C),), [[A, B, C]], {A: B}, None, iter([A, B, C])]:
            told = isinstance(thing, list) and thing == []
            self.assertIs(holds(thing, 3), told, thing)
            self.assertIs(holds(thing, 0), False)
        for at in range(3):
            for thing in strange_things() + [list(A)]:
                told = [A, B, C]
                told[at] = thing
                self.assertIs(holds(told), False, thing)

    def test_other_things_in_each_part(self):
        for at, part in product(range(3), range(5)):
            for thing in strange_things() + [Sly(0), Sly(77)]:
                told = [A, B, C]
                told[at] = told[at][:part] + (thing,) + told[at][part + 1:]
                right = isinstance(thing, Sly) and int.__eq__(thing, (A, B, C)[at][part])
                self.assertIs(holds(told), right is True, (at, part, thing))
        for thing in strange_things() + [Sly(77), [2, MARK], (2, list(MARK)), (2, MARK, 0), (2, (3, 5, 0)),
                                         (True, MARK)]:
            self.assertIs(holds([A[:4] + ((thing,),), B, C]), False)
            self.assertIs(holds([A[:4] + (((2, thing),),), B, C]), False)
            self.assertIs(holds([A[:4] + (((2, (3, thing)),),), B, C]), False)
        self.assertIs(holds([A[:4] + ([BIT],), B, C]), False)

    def test_of_classes_beneath(self):
        def beneath(thing, number):
            if isinstance(thing, tuple):
                return Pair(beneath(part, number) for part in thing)
            return number(thing)
        for number in (Whole, Sly):
            self.assertIs(holds(Row([beneath(A, number), B, beneath(C, number)])), True)
            self.assertIs(holds(Row([beneath(A, number), beneath(C, number)])), False)


class ReasonOf(unittest.TestCase):

    def test_dead(self):
        web = Web(4, row_pairs(4))
        for rooms in ((3,), (2, 3), [2]):
            self.assertEqual(reason_of(web, [0, 1], rooms), "dead")

    def test_cut(self):
        web = Web(4, row_pairs(4))
        for rooms in ((3,), (2, 3), (1, 2), (1, 2, 3), [3]):
            self.assertEqual(reason_of(web, [0, 2, 3], rooms), "cut", rooms)

    def test_late(self):
        web = Web(4, row_pairs(4))
        for rooms in ((1,), (0,), (1, 2), (1, 3), (1, 2, 3)):
            self.assertEqual(reason_of(web, [0, 1, 3], rooms), "late", rooms)

    def test_of_all_living_ones_and_rooms(self):
        for pairs in (row_pairs(4), ring_pairs(4), all_pairs(4), []):
            web = Web(4, pairs)
            for living in living_lists(4):
                far = web.distances(living)
                for rooms in [chosen for size in range(1, 5) for chosen in combinations(range(4), size)]:
                    left = [room for room in rooms if room in living]
                    led = [room for room in left if far[room] is not None]
                    word = "late" if led else "cut" if left else "dead"
                    self.assertEqual(reason_of(web, living, rooms), word)

    def test_of_classes_beneath(self):
        told = reason_of(Web(4, row_pairs(4)), Row(map(Whole, [0, 1, 3])), Pair(map(Whole, (2, 3))))
        self.assertEqual(told, "cut")
        self.assertTrue(is_own(told))


if __name__ == "__main__":
    unittest.main()
