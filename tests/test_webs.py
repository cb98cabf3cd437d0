"""Points 13 to 15, and points 3 and 4 of them: webs, distances, the cut, and papers."""

import unittest
from itertools import product

from listenfield.errors import FieldError, Wrong
from listenfield.webs import Web, cut_holds, road_holds, slots_hold
from things import (Like, Other, Pair, Row, Sly, Whole, all_pairs, is_own, living_lists, ring_pairs, row_pairs, shapes,
                    star_pairs, strange_things, subsets)

FOURS = [Web(4, pairs) for pairs in subsets(all_pairs(4))]
SHAPED = [Web(many, pairs) for many in range(2, 11) for pairs in shapes(many)]


def near_by_pairs(web, place):
    """The neighbours of a place, by looking at each pair."""
    return [other for other in range(web.many())
            if (place, other) in web.pairs() or (other, place) in web.pairs()]


def clash_by_pairs(web, one, other):
    """Whether two places clash, by looking at each place between."""
    if one == other:
        return False
    return other in near_by_pairs(web, one) or any(
        one in near_by_pairs(web, between) and other in near_by_pairs(web, between) for between in range(web.many()))


def distances_by_steps(web, living):
    """The distances, by going on until no place is nearer than it was."""
    told = [None] * web.many()
    told[0] = 0
    for _ in range(web.many()):
        for place in living:
            near = [told[other] for other in near_by_pairs(web, place) if told[other] is not None and other in living]
            if place and near:
                told[place] = min(near) + 1
    return told


class Made(unittest.TestCase):

    def refused(self, at, many, pairs):
        with self.assertRaises(Wrong) as caught:
            Web(many, pairs)
        self.assertEqual(caught.exception.at, at, (many, pairs))

    def test_tells_what_it_is_made_of(self):
        for many in (2, 3, 9, 10):
            for pairs in shapes(many):
                web = Web(many, list(pairs))
                self.assertEqual(web.many(), many)
                self.assertEqual(web.pairs(), pairs)

    def test_so_many_places(self):
        for many in (1, 0, -1, 11, 100, 10 ** 30):
            self.refused(0, many, [])
        for thing in strange_things():
            self.refused(0, thing, [])

    def test_pairs_are_a_list(self):
        for thing in strange_things():
            if thing == [] and isinstance(thing, list):
                continue
            self.refused(1, 2, thing)
        for thing in (((0, 1),), {(0, 1)}, {(0, 1): 1}, iter([(0, 1)]), (0, 1), "01"):
            self.refused(1, 2, thing)

    def test_each_pair_is_a_tuple_of_two(self):
        for thing in strange_things() + [[0, 1], (0, 1, 2), (0,), "01", {0, 1}, 1, iter((0, 1))]:
            self.refused(1, 3, [thing])
            self.refused(1, 3, [(0, 1), thing])
            self.refused(1, 3, [thing, (1, 2)])

    def test_each_of_a_pair_is_a_place_of_the_web(self):
        for thing in strange_things() + [-1, 4, 10, 10 ** 30]:
            self.refused(1, 4, [(thing, 3)])
            self.refused(1, 4, [(0, thing)])
            self.refused(1, 4, [(0, 1), (0, 2), (1, thing)])
        for many in range(2, 11):
            self.assertEqual(Web(many, [(0, many - 1)]).pairs(), [(0, many - 1)])
            self.refused(1, many, [(0, many)])

    def test_the_first_of_a_pair_is_less(self):
        for pair in ((0, 0), (1, 1), (1, 0), (3, 2)):
            self.refused(1, 4, [pair])

    def test_pairs_rise(self):
        for pairs in ([(0, 1), (0, 1)], [(0, 2), (0, 1)], [(1, 2), (0, 3)], [(0, 1), (2, 3), (1, 2)]):
            self.refused(1, 4, pairs)

    def test_the_first_wrong_thing_is_told(self):
        self.refused(0, 1, "no")
        self.refused(0, True, [(0, 5)])
        self.refused(0, "2", None)
        self.refused(0, [], 2)

    def test_refused_as_field_error_and_value_error(self):
        for caught in (Wrong, FieldError, ValueError):
            with self.assertRaises(caught):
                Web(1, [])

    def test_a_list_changed_behind_the_call_changes_nothing(self):
        pairs = [(0, 1), (1, 2)]
        web = Web(3, pairs)
        self.assertEqual(pairs, [(0, 1), (1, 2)])
        pairs.append((0, 2))
        pairs[0] = (5, 5)
        self.assertEqual(web.pairs(), [(0, 1), (1, 2)])
        self.assertEqual(web.neighbours(0), [1])
        self.assertEqual(web.slots(), [0, 1, 2])

    def test_what_is_refused_stays_as_it_was(self):
        pairs = [(0, 1), (1, 9)]
        self.refused(1, 3, pairs)
        self.assertEqual(pairs, [(0, 1), (1, 9)])

    def test_told_in_pythons_own_kinds(self):
        web = Web(Sly(4), Row([Pair((Whole(0), Sly(1))), Pair((Sly(1), 3))]))
        self.assertEqual(web.many(), 4)
        self.assertEqual(web.pairs(), [(0, 1), (1, 3)])
        living = Row([Whole(0), Sly(1), Whole(2), Sly(3)])
        for told in (web.many(), web.pairs(), web.neighbours(Whole(1)), web.clash(Sly(0), Sly(3)), web.slots(),
                     web.distances(living), web.cut(living)):
            self.assertTrue(is_own(told), told)
        self.assertEqual(web.neighbours(Sly(1)), [0, 3])
        self.assertEqual(web.distances(living), [0, 1, None, 2])
        self.assertEqual(web.cut(living), [2])
        row = Web(4, row_pairs(4))
        self.assertEqual(row.distances([Sly(at) for at in range(4)]), [0, 1, 2, 3])
        self.assertEqual(row.cut([Sly(0), Sly(1), Sly(3)]), [3])
        for one, other in product(range(4), repeat=2):
            self.assertIs(row.clash(Sly(one), Sly(other)), row.clash(one, other))
            self.assertIs(row.clash(one, Sly(other)), row.clash(one, other))
            self.assertEqual(row.neighbours(Sly(one)), row.neighbours(one))
        for pairs in ([(Sly(1), Sly(0))], [(Sly(0), Sly(4))], [(Sly(0), Sly(2)), (Sly(0), Sly(1))]):
            self.refused(1, 4, pairs)
        self.refused(0, Sly(11), [])


class Neighbours(unittest.TestCase):

    def test_rising(self):
        web = Web(5, [(0, 3), (1, 2), (1, 3), (2, 3), (3, 4)])
        self.assertEqual([web.neighbours(place) for place in range(5)], [[3], [2, 3], [1, 3], [0, 1, 2, 4], [3]])

    def test_as_the_pairs_tell(self):
        for web in FOURS + SHAPED:
            for place in range(web.many()):
                self.assertEqual(web.neighbours(place), near_by_pairs(web, place))

    def test_of_places_of_the_web_alone(self):
        for many in (2, 5, 10):
            web = Web(many, row_pairs(many))
            self.assertEqual(web.neighbours(many - 1), [many - 2])
            for thing in strange_things() + [-1, many, 10, 10 ** 30, Sly(many)]:
                with self.assertRaises(Wrong) as caught:
                    web.neighbours(thing)
                self.assertEqual(caught.exception.at, 0)

    def test_each_told_list_is_a_new_one(self):
        web = Web(3, [(0, 1), (1, 2)])
        for ask in (web.pairs, web.slots, lambda: web.neighbours(1), lambda: web.distances([0, 1, 2]),
                    lambda: web.cut([0, 2])):
            first = ask()
            kept = list(first)
            first.append("more")
            first[0] = "other"
            self.assertEqual(ask(), kept)
            self.assertIsNot(ask(), ask())


class Clash(unittest.TestCase):

    def test_neighbours_and_those_with_one_in_common(self):
        web = Web(5, row_pairs(5))
        self.assertIs(web.clash(0, 1), True)
        self.assertIs(web.clash(0, 2), True)
        self.assertIs(web.clash(0, 3), False)
        self.assertIs(web.clash(4, 2), True)
        self.assertIs(web.clash(4, 1), False)

    def test_no_place_clashes_with_itself(self):
        for web in SHAPED:
            for place in range(web.many()):
                self.assertIs(web.clash(place, place), False)

    def test_as_the_pairs_tell(self):
        for web in FOURS + SHAPED:
            for one, other in product(range(web.many()), repeat=2):
                self.assertIs(web.clash(one, other), clash_by_pairs(web, one, other))

    def test_of_places_of_the_web_alone(self):
        web = Web(3, [(0, 1)])
        for thing in strange_things() + [-1, 3, 10, Sly(3)]:
            for at, things in ((0, (thing, 1)), (1, (1, thing)), (0, (thing, thing)), (0, (thing, 7))):
                with self.assertRaises(Wrong) as caught:
                    web.clash(*things)
                self.assertEqual(caught.exception.at, at)


class Slots(unittest.TestCase):

    def test_of_a_row_a_ring_a_star_all_and_none(self):
        self.assertEqual(Web(6, row_pairs(6)).slots(), [0, 1, 2, 0, 1, 2])
        self.assertEqual(Web(6, ring_pairs(6)).slots(), [0, 1, 2, 0, 1, 2])
        self.assertEqual(Web(5, ring_pairs(5)).slots(), [0, 1, 2, 3, 4])
        self.assertEqual(Web(4, star_pairs(4)).slots(), [0, 1, 2, 3])
        self.assertEqual(Web(10, all_pairs(10)).slots(), list(range(10)))
        self.assertEqual(Web(10, []).slots(), [0] * 10)
        self.assertEqual(Web(2, []).slots(), [0, 0])
        self.assertEqual(Web(2, [(0, 1)]).slots(), [0, 1])
        self.assertEqual(Web(4, [(0, 2), (1, 2), (1, 3)]).slots(), [0, 1, 2, 0])

    def test_the_least_that_no_lesser_one_that_clashes_has(self):
        for web in FOURS + SHAPED:
            slots = web.slots()
            self.assertEqual(len(slots), web.many())
            for place in range(web.many()):
                barred = {slots[lesser] for lesser in range(place) if clash_by_pairs(web, lesser, place)}
                self.assertNotIn(slots[place], barred)
                self.assertTrue(barred >= set(range(slots[place])))


class Distances(unittest.TestCase):

    def test_of_a_row(self):
        web = Web(5, row_pairs(5))
        self.assertEqual(web.distances([0, 1, 2, 3, 4]), [0, 1, 2, 3, 4])
        self.assertEqual(web.distances([0, 1, 3, 4]), [0, 1, None, None, None])
        self.assertEqual(web.distances([0]), [0, None, None, None, None])
        self.assertEqual(web.cut([0, 1, 2, 3, 4]), [])
        self.assertEqual(web.cut([0, 1, 3, 4]), [3, 4])
        self.assertEqual(web.cut([0]), [])

    def test_the_dead_are_gone_around(self):
        web = Web(6, ring_pairs(6))
        self.assertEqual(web.distances([0, 1, 2, 3, 4, 5]), [0, 1, 2, 3, 2, 1])
        self.assertEqual(web.distances([0, 2, 3, 4, 5]), [0, None, 4, 3, 2, 1])
        self.assertEqual(web.cut([0, 2, 3, 4]), [2, 3, 4])

    def test_without_pairs_all_but_the_root_are_cut_off(self):
        web = Web(10, [])
        self.assertEqual(web.distances(list(range(10))), [0] + [None] * 9)
        self.assertEqual(web.cut(list(range(10))), list(range(1, 10)))

    def test_of_a_star_and_of_all_beside_all(self):
        for pairs in (star_pairs(10), all_pairs(10)):
            self.assertEqual(Web(10, pairs).distances(list(range(10))), [0] + [1] * 9)

    def test_as_going_on_step_by_step_tells(self):
        webs = FOURS + [web for web in SHAPED if web.many() < 8]
        for web in webs:
            for living in living_lists(web.many()):
                far = distances_by_steps(web, living)
                self.assertEqual(web.distances(living), far)
                self.assertEqual(web.cut(living), [place for place in living if far[place] is None])

    def test_the_living_are_not_changed(self):
        web = Web(4, row_pairs(4))
        living = [0, 1, 3]
        for _ in range(2):
            self.assertEqual(web.distances(living), [0, 1, None, None])
            self.assertEqual(web.cut(living), [3])
        self.assertEqual(living, [0, 1, 3])


class SlotsHold(unittest.TestCase):

    def test_a_webs_own_slots_hold(self):
        for web in FOURS + SHAPED:
            self.assertIs(slots_hold(web, web.slots()), True)

    def test_each_list_of_few_slots(self):
        for web in FOURS:
            for slots in product(range(3), repeat=4):
                apart = all(slots[one] != slots[other] or not clash_by_pairs(web, one, other)
                            for one, other in all_pairs(4))
                self.assertIs(slots_hold(web, list(slots)), apart)

    def test_other_numbers_than_the_least_hold_too(self):
        web = Web(3, row_pairs(3))
        self.assertIs(slots_hold(web, [7, 10 ** 30, 0]), True)
        self.assertIs(slots_hold(web, [7, 10 ** 30, 7]), False)
        self.assertIs(slots_hold(web, [Whole(2), Sly(1), 0]), True)
        self.assertIs(slots_hold(web, [Sly(2), 1, Sly(2)]), False)
        self.assertIs(slots_hold(web, Row([2, 1, 0])), True)

    def test_just_one_for_each_place(self):
        web = Web(3, [])
        for slots in ([], [0], [0, 0], [0, 0, 0, 0]):
            self.assertIs(slots_hold(web, slots), False)
        self.assertIs(slots_hold(web, [0, 0, 0]), True)

    def test_whole_numbers_from_nought_on(self):
        web = Web(3, [])
        for thing in strange_things() + [-1, -(10 ** 30), Sly(-1), 1.0]:
            for slots in ([thing, 0, 0], [0, thing, 0], [0, 0, thing]):
                self.assertIs(slots_hold(web, slots), False)

    def test_of_whatever(self):
        web = Web(2, [])
        for thing in strange_things() + [(0, 0), "00", b"\0\0", {0: 0, 1: 0}, range(2), iter([0, 0]), 0, Like()]:
            self.assertIs(slots_hold(web, thing), False)

    def test_nothing_is_changed(self):
        web = Web(3, row_pairs(3))
        slots = [2, 1, 0]
        self.assertIs(slots_hold(web, slots), slots_hold(web, slots))
        self.assertEqual(slots, [2, 1, 0])


class RoadHolds(unittest.TestCase):

    def test_each_short_row_of_places(self):
        for web in (Web(4, row_pairs(4)), Web(4, ring_pairs(4)), Web(4, star_pairs(4)), Web(4, [])):
            for living in ([0, 1, 2, 3], [0, 2, 3], [0, 3], [0]):
                for length, place in product(range(5), range(4)):
                    for road in product(range(4), repeat=length):
                        holds = (length > 0 and road[0] == place and road[-1] == 0 and set(road) <= set(living)
                                 and all(near_by_pairs(web, one).count(other) for one, other in zip(road, road[1:])))
                        self.assertIs(road_holds(web, living, place, list(road)), holds)

    def test_of_the_root(self):
        web = Web(3, row_pairs(3))
        self.assertIs(road_holds(web, [0], 0, [0]), True)
        self.assertIs(road_holds(web, [0, 1], 0, [0, 1, 0]), True)
        self.assertIs(road_holds(web, [0, 1], 0, [0, 0]), False)
        self.assertIs(road_holds(web, [0, 1], 0, []), False)

    def test_longer_ones_hold_too(self):
        web = Web(4, ring_pairs(4))
        self.assertIs(road_holds(web, [0, 1, 2, 3], 1, [1, 0]), True)
        self.assertIs(road_holds(web, [0, 1, 2, 3], 1, [1, 2, 3, 0]), True)
        self.assertIs(road_holds(web, [0, 1, 2, 3], 1, [1, 2, 1, 2, 1, 0]), True)
        self.assertIs(road_holds(web, [0, 1, 3], 1, [1, 2, 3, 0]), False)

    def test_begins_with_the_place_and_ends_with_the_root(self):
        web = Web(4, row_pairs(4))
        living = [0, 1, 2, 3]
        self.assertIs(road_holds(web, living, 2, [2, 1, 0]), True)
        for road in ([1, 0], [3, 2, 1, 0], [2, 1], [2], [0], [0, 1, 2]):
            self.assertIs(road_holds(web, living, 2, road), False)

    def test_dead_places_have_no_road(self):
        web = Web(2, [(0, 1)])
        self.assertIs(road_holds(web, [0], 1, [1, 0]), False)
        self.assertIs(road_holds(web, [0, 1], 1, [1, 0]), True)

    def test_of_classes_beneath(self):
        web = Web(3, row_pairs(3))
        living = [0, 1, 2]
        self.assertIs(road_holds(web, living, 2, Row([Whole(2), Sly(1), Sly(0)])), True)
        self.assertIs(road_holds(web, Row([Sly(0), Sly(1), Sly(2)]), Sly(2), [2, 1, 0]), True)
        self.assertIs(road_holds(web, living, 2, [Sly(1), Sly(0)]), False)
        self.assertIs(road_holds(web, living, Sly(2), [1, 0]), False)
        self.assertIs(road_holds(web, living, 2, [2, Sly(7), 1, 0]), False)
        self.assertIs(road_holds(web, [Sly(0), Sly(2)], 2, [2, 1, 0]), False)

    def test_of_whatever(self):
        web = Web(2, [(0, 1)])
        things = strange_things() + [(1, 0), "10", {1: 0}, range(1, -1, -1), iter([1, 0]), 1, Like(), [True, False],
                                     [True, 0], [1, False], [(1, 0)], [1.5, 0], [[1, 0]]]
        for thing in things:
            self.assertIs(road_holds(web, [0, 1], 1, thing), False)
        for thing in strange_things() + [-1, 2, 10, Other()]:
            for road in ([thing], [thing, 0], [1, thing], [1, thing, 0], [1, 0, thing]):
                self.assertIs(road_holds(web, [0, 1], 1, road), False)

    def test_nothing_is_changed(self):
        web = Web(3, row_pairs(3))
        living, road = [0, 1, 2], [2, 1, 0]
        self.assertIs(road_holds(web, living, 2, road), True)
        self.assertEqual((living, road), ([0, 1, 2], [2, 1, 0]))


class CutHolds(unittest.TestCase):

    def test_a_webs_own_cut_holds(self):
        for web in FOURS + [web for web in SHAPED if web.many() < 8]:
            for living in living_lists(web.many()):
                self.assertIs(cut_holds(web, living, web.cut(living)), True)

    def test_each_rising_list(self):
        for web in FOURS:
            for living in living_lists(4):
                for cut in subsets(range(4)):
                    holds = (set(cut) <= set(living) - {0}
                             and all(near in cut or near not in living for at in cut for near in near_by_pairs(web, at)))
                    self.assertIs(cut_holds(web, living, cut), holds)

    def test_none_and_a_part_that_is_closed(self):
        web = Web(5, [(1, 2), (3, 4)])
        living = [0, 1, 2, 3, 4]
        for cut in ([], [1, 2], [3, 4], [1, 2, 3, 4]):
            self.assertIs(cut_holds(web, living, cut), True)
        for cut in ([1], [4], [1, 2, 3], [0], [0, 1, 2]):
            self.assertIs(cut_holds(web, living, cut), False)

    def test_rising(self):
        web = Web(3, [])
        for cut in ([2, 1], [1, 1], [1, 2, 2], [1, 2, 1]):
            self.assertIs(cut_holds(web, [0, 1, 2], cut), False)
        self.assertIs(cut_holds(web, [0, 1, 2], [1, 2]), True)

    def test_the_dead_are_not_in_it(self):
        web = Web(3, [(1, 2)])
        self.assertIs(cut_holds(web, [0, 1], [1]), True)
        self.assertIs(cut_holds(web, [0, 1], [1, 2]), False)

    def test_of_classes_beneath(self):
        web = Web(4, [(1, 2)])
        living = Row([Sly(0), Sly(1), Whole(2)])
        self.assertIs(cut_holds(web, living, Row([Sly(1), Whole(2)])), True)
        self.assertIs(cut_holds(web, living, [Sly(2)]), False)
        self.assertIs(cut_holds(web, living, [Sly(1), Sly(2), Sly(3)]), False)
        self.assertIs(cut_holds(web, living, [Sly(0), Sly(1), Sly(2)]), False)
        self.assertIs(cut_holds(web, living, [Sly(2), Sly(1)]), False)

    def test_of_whatever(self):
        web = Web(3, [])
        for thing in strange_things() + [(1,), (1, 2), "1", {1: 2}, range(1, 3), iter([1]), 1, Like(), {1}]:
            if not (isinstance(thing, list) and thing == []):
                self.assertIs(cut_holds(web, [0, 1, 2], thing), False)
        for thing in strange_things() + [-1, 3, 10, Other(), 1.5]:
            for cut in ([thing], [1, thing], [thing, 2]):
                self.assertIs(cut_holds(web, [0, 1, 2], cut), False)

    def test_nothing_is_changed(self):
        web = Web(3, [])
        living, cut = [0, 1, 2], [1, 2]
        self.assertIs(cut_holds(web, living, cut), True)
        self.assertEqual((living, cut), ([0, 1, 2], [1, 2]))


if __name__ == "__main__":
    unittest.main()
