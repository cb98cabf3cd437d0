"""Points 29 to 33, and points 3, 5, 9 and 11 of them: posts, alone and among others."""

import random
import unittest
from itertools import permutations

from listenfield.answers import answer_holds, answer_of
from listenfield.items import greatest, is_item, is_laminar, item_of
from listenfield.posts import Post
from things import Pair, Row, Sly, Whole, is_own

A, B, C, D, E = (1, 5), (2, 5), (2, 6), (3, 0), (4, 9)


def of(*marks, window=0, loose=False, number=1):
    """An item of some marks, each of which has its place's and its turn's sum for a reading."""
    readings = [place + turn for place, turn in marks]
    return number, window, tuple(sorted(marks)), sum(readings), min(readings), max(readings), loose


def loose(*marks, window=0):
    """A loose item of some marks."""
    return of(*marks, window=window, loose=True)


def state(post):
    """All that a post tells."""
    return post.held(), post.out(), post.made(), [post.taken(place) for place in range(10)]


def holding(*items):
    """A post that some items came to, one by one."""
    post = Post(3, 1)
    for item in items:
        post.put(item)
    return post


def speaking(*items, head=2):
    """A post that has made up a parcel of some items."""
    post = holding(*items)
    post.make_up(head, [])
    return post


class AtFirst(unittest.TestCase):

    def test_nothing(self):
        for place in (0, 3, 9):
            self.assertEqual(state(Post(place, 7)), ([], None, 0, [0] * 10))
        self.assertEqual(Post(3, 7).taken(99), 0)

    def test_nothing_is_told(self):
        post = Post(3, 1)
        self.assertIsNone(post.put(of(A)))
        self.assertIsNone(post.make_up(2, []))
        self.assertIsNone(post.hears_taken(2, 1))
        self.assertIsNone(post.let_go([0]))


class ComesIn(unittest.TestCase):

    def test_apart_all_are_held_by_windows_then_marks(self):
        told = [of(D), loose(A, window=1), of(B, C, window=1), of(A, window=2), loose(B, window=10)]
        for order in permutations(told):
            self.assertEqual(holding(*order).held(), told)

    def test_within_one_that_is_held_it_is_not_taken_in(self):
        for item in (of(A), loose(A), of(A, B), loose(B, C)):
            for held in (of(A, B, C), loose(A, B, C)):
                self.assertEqual(holding(held, item).held(), [held])

    def test_those_held_within_it_go(self):
        for held in (of(A), loose(A), of(A, B), loose(B, C)):
            for item in (of(A, B, C), loose(A, B, C)):
                self.assertEqual(holding(held, item).held(), [item])
        self.assertEqual(holding(of(A), loose(B), of(C), of(D), of(A, window=1), of(A, B, C)).held(),
                         [of(A, B, C), of(D), of(A, window=1)])

    def test_of_the_same_marks_the_loose_one_goes(self):
        self.assertEqual(holding(loose(A, B), of(A, B)).held(), [of(A, B)])
        self.assertEqual(holding(of(A, B), loose(A, B)).held(), [of(A, B)])

    def test_of_two_alike_the_one_that_comes_goes(self):
        for item in (of(A, B), loose(A, B)):
            self.assertEqual(holding(item, item).held(), [item])
            other = (*item[:3], item[3] + 1, *item[4:])
            self.assertEqual(holding(item, other).held(), [item])

    def test_of_other_windows_they_are_apart(self):
        told = [of(A, B), of(A, window=1), loose(A, window=2)]
        for order in permutations(told):
            self.assertEqual(holding(*order).held(), told)

    def test_with_marks_in_common_both_are_held(self):
        told = [of(A, B), loose(A, D), of(B, C)]
        for order in permutations(told):
            self.assertEqual(holding(*order).held(), told)
        self.assertEqual(holding(*told, of(A, B, C)).held(), [of(A, B, C), loose(A, D)])

    def test_no_held_one_lies_within_another_whatever_comes(self):
        chance = random.Random(2)
        for _ in range(300):
            post, came = Post(3, 1), []
            for _ in range(10):
                came.append(of(*chance.sample([A, B, C, D, E], chance.randint(1, 4)), window=chance.randint(0, 1),
                               loose=chance.random() < 0.5))
                post.put(came[-1])
                held = post.held()
                self.assertEqual(held, greatest(came))
                self.assertEqual([item[:3] for item in held], sorted(item[:3] for item in held))

    def test_told_lists_are_new_ones(self):
        post = holding(of(A))
        post.held().append(of(B))
        post.held()[0] = None
        self.assertEqual(post.held(), [of(A)])

    def test_in_pythons_own_kinds(self):
        for number in (Whole, Sly):
            post = Post(number(3), number(1))
            post.put(Pair((number(1), number(0), Pair((Pair((number(1), number(5))),)), number(6), number(6), number(6),
                           False)))
            post.handed(number(4), Pair((number(2), number(3), Pair((of(B), Pair(of(C, window=1)))))))
            self.assertEqual(state(post), ([of(A), of(B), of(C, window=1)], None, 0, [0, 0, 0, 0, 2] + [0] * 5))
            self.assertTrue(is_own(list(state(post))))
            post.make_up(number(2), Row([number(4)]))
            self.assertEqual(post.out(), (1, 2, (of(A, B), of(C, window=1))))
            self.assertTrue(is_own(list(state(post))))
            self.assertEqual(post.taken(number(4)), 2)
            post.let_go(Row([number(0)]))
            self.assertEqual(post.out(), (1, 2, (of(C, window=1),)))
            post.hears_taken(number(4), number(1))
            self.assertIsNotNone(post.out())
            post.hears_taken(number(2), number(0))
            self.assertIsNotNone(post.out())
            post.hears_taken(number(2), number(1))
            self.assertIsNone(post.out())


class MakesUp(unittest.TestCase):

    def test_one_merged_for_each_window(self):
        post = speaking(of(A), of(C), of(D), of(B, window=1), of(A, E, window=3))
        self.assertEqual(state(post)[:3], ([], (1, 2, (of(A, C, D), of(B, window=1), of(A, E, window=3))), 1))

    def test_loose_ones_stay_as_they_are(self):
        post = speaking(loose(A), of(B), loose(C), of(D), loose(A, B, window=1), loose(E, window=1))
        self.assertEqual(post.out(), (1, 2, (loose(A), of(B, D), loose(C), loose(A, B, window=1), loose(E, window=1))))

    def test_a_window_of_loose_ones_alone_has_no_merged_one(self):
        self.assertEqual(speaking(loose(A), of(B, window=1)).out(), (1, 2, (loose(A), of(B, window=1))))

    def test_marks_in_common_are_told_once(self):
        _, _, (item,) = speaking(of(A, B), of(B, C)).out()
        self.assertEqual((item[2], item[3:]), ((A, B, C), (6 + 7 + 7 + 8, 6, 8, False)))
        self.assertIs(is_item(item), True)

    def test_without_a_head_or_held_ones_nothing_is_made(self):
        post = holding(of(A))
        for _ in range(3):
            post.make_up(None, [])
            self.assertEqual(state(post)[:3], ([of(A)], None, 0))
        post = Post(3, 1)
        post.make_up(2, [])
        self.assertEqual(state(post)[:3], ([], None, 0))

    def test_to_the_root_too(self):
        self.assertEqual(speaking(of(A), head=0).out(), (1, 0, (of(A),)))

    def test_what_is_out_stays_out(self):
        post = speaking(of(A))
        post.put(of(B))
        for head in (2, 4, None, 0):
            post.make_up(head, [])
            self.assertEqual(state(post)[:3], ([of(B)], (1, 2, (of(A),)), 1))

    def test_those_forgotten_that_it_does_not_go_to_change_nothing(self):
        post = speaking(of(A))
        post.put(of(B))
        post.make_up(2, [0, 1, 3, 4])
        self.assertEqual(state(post)[:3], ([of(B)], (1, 2, (of(A),)), 1))

    def test_out_to_one_that_is_forgotten_comes_back_loose(self):
        post = speaking(of(A), of(B), of(C, window=1))
        post.make_up(None, [1, 2])
        self.assertEqual(state(post)[:3], ([loose(A, B), loose(C, window=1)], None, 1))

    def test_and_is_made_up_anew_at_once(self):
        post = speaking(of(A), of(B), loose(D))
        post.put(of(C))
        post.make_up(4, [2])
        self.assertEqual(state(post)[:3], ([], (2, 4, (loose(A, B), of(C), loose(D))), 2))
        post.make_up(2, [4])
        self.assertEqual(state(post)[:3], ([], (3, 2, (loose(A, B), loose(C), loose(D))), 3))

    def test_even_to_the_one_that_is_forgotten(self):
        post = speaking(of(A))
        post.make_up(2, [2])
        self.assertEqual(state(post)[:3], ([], (2, 2, (loose(A),)), 2))

    def test_out_to_the_root_may_be_forgotten(self):
        post = speaking(of(A), head=0)
        post.make_up(None, [0])
        self.assertEqual(state(post)[:3], ([loose(A)], None, 1))

    def test_what_comes_back_comes_into_held_as_all_does(self):
        post = speaking(of(A), of(B))
        post.put(of(A, B))
        post.make_up(None, [2])
        self.assertEqual(post.held(), [of(A, B)])
        post = speaking(of(A), of(B))
        post.put(of(A, B, C))
        post.make_up(None, [2])
        self.assertEqual(post.held(), [of(A, B, C)])
        post = speaking(of(A, B))
        post.put(of(A))
        post.put(of(C))
        post.make_up(None, [2])
        self.assertEqual(post.held(), [loose(A, B), of(C)])

    def test_a_list_handed_in_stays(self):
        forgotten = [2, 4]
        post = speaking(of(A))
        post.make_up(4, forgotten)
        self.assertEqual(forgotten, [2, 4])


class Hears(unittest.TestCase):

    def test_taken_by_the_one_it_goes_to(self):
        for number, gone in ((0, False), (1, True), (2, True), (99, True)):
            post = speaking(of(A))
            post.hears_taken(2, number)
            self.assertEqual(state(post)[:3], ([], None if gone else (1, 2, (of(A),)), 1))

    def test_that_number_or_a_greater_one(self):
        post = speaking(of(A))
        for told in (1, 2):
            post.put(of(B))
            post.hears_taken(2, told)
            post.make_up(2, [])
            self.assertEqual(post.out(), (told + 1, 2, (of(B),)))
        post.hears_taken(2, 2)
        self.assertEqual(post.out(), (3, 2, (of(B),)))
        post.hears_taken(2, 3)
        self.assertIsNone(post.out())

    def test_by_another_one_it_is_not(self):
        post = speaking(of(A))
        for place in (0, 1, 3, 4):
            post.hears_taken(place, 5)
        self.assertEqual(post.out(), (1, 2, (of(A),)))

    def test_where_nothing_is_out(self):
        post = holding(of(A))
        post.hears_taken(2, 1)
        self.assertEqual(state(post)[:3], ([of(A)], None, 0))

    def test_what_is_held_stays(self):
        post = speaking(of(A))
        post.put(of(B))
        post.hears_taken(2, 1)
        self.assertEqual(state(post), ([of(B)], None, 1, [0] * 10))


class Handed(unittest.TestCase):

    def test_taken_where_its_number_is_greater(self):
        post = Post(3, 1)
        for number, taken, held in ((2, True, [of(A)]), (2, False, [of(A)]), (1, False, [of(A)]),
                                    (3, True, [of(A), of(B)]), (9, True, [of(A), of(B)])):
            item = of(A) if number == 2 else of(B)
            self.assertIs(post.handed(4, (number, 3, (item,))), taken)
            self.assertEqual(post.held(), held)
        self.assertEqual(state(post)[3], [0, 0, 0, 0, 9, 0, 0, 0, 0, 0])
        self.assertIs(Post(3, 1).handed(4, (0, 3, (of(A),))), False)

    def test_numbers_are_of_each_speaker(self):
        post = Post(3, 1)
        self.assertIs(post.handed(4, (5, 3, (of(A),))), True)
        self.assertIs(post.handed(0, (1, 3, (of(B),))), True)
        self.assertIs(post.handed(4, (2, 3, (of(C),))), False)
        self.assertEqual(state(post), ([of(A), of(B)], None, 0, [1, 0, 0, 0, 5, 0, 0, 0, 0, 0]))

    def test_items_come_in_as_they_are(self):
        post = holding(of(A), loose(B), of(C, window=1))
        self.assertIs(post.handed(4, (1, 3, (loose(A), of(B), loose(C, D, window=1), of(E, window=2)))), True)
        self.assertEqual(post.held(), [of(A), of(B), loose(C, D, window=1), of(E, window=2)])

    def test_what_is_out_stays_out(self):
        post = speaking(of(A))
        self.assertIs(post.handed(2, (1, 3, (of(A, B),))), True)
        self.assertEqual(state(post)[:3], ([of(A, B)], (1, 2, (of(A),)), 1))
        post.make_up(None, [2])
        self.assertEqual(post.held(), [of(A, B)])

    def test_what_was_made_and_what_was_taken_are_apart(self):
        post = speaking(of(A))
        post.handed(2, (7, 3, (of(B),)))
        self.assertEqual((post.made(), post.taken(2)), (1, 7))


class LetsGo(unittest.TestCase):

    def made(self):
        post = speaking(of(A), of(B, window=1), loose(C, window=1), of(D, window=2), loose(E, window=4))
        for window in range(4):
            post.put(of(A, E, window=window))
        return post

    def test_of_told_windows(self):
        for windows in ([], [0], [1], [0, 1], [1, 2], [3], [5, 9], [0, 2, 4], [0, 1, 2, 3]):
            post = self.made()
            kept = [item for item in post.out()[2] if item[1] not in windows]
            held = [item for item in post.held() if item[1] not in windows]
            post.let_go(windows)
            self.assertEqual(state(post)[:3], (held, (1, 2, tuple(kept)), 1))

    def test_a_parcel_without_items_is_none(self):
        post = self.made()
        post.let_go([0, 1, 2, 4])
        self.assertEqual(state(post)[:3], ([of(A, E, window=3)], None, 1))
        post.make_up(2, [])
        self.assertEqual(post.out(), (2, 2, (of(A, E, window=3),)))
        post.let_go([3])
        self.assertEqual(state(post)[:3], ([], None, 2))

    def test_what_was_taken_stays(self):
        post = Post(3, 1)
        post.handed(4, (6, 3, (of(A),)))
        post.let_go([0])
        self.assertEqual(state(post), ([], None, 0, [0, 0, 0, 0, 6, 0, 0, 0, 0, 0]))
        self.assertIs(post.handed(4, (6, 3, (of(A),))), False)

    def test_where_nothing_is_out(self):
        post = holding(of(A), of(B, window=1))
        windows = [1]
        post.let_go(windows)
        self.assertEqual((state(post)[:3], windows), (([of(A)], None, 0), [1]))

    def test_what_is_left_of_a_parcel_is_taken_by_its_number(self):
        post = self.made()
        post.let_go([0, 1])
        post.hears_taken(2, 1)
        self.assertIsNone(post.out())


class Copied(unittest.TestCase):

    def made(self):
        post = speaking(of(A), loose(B))
        post.put(of(C))
        post.handed(4, (6, 3, (of(D, window=1),)))
        return post

    def test_it_is_alike(self):
        self.assertEqual(state(self.made().copied()), state(self.made()))
        self.assertEqual(state(self.made().copied().copied()), state(self.made()))
        self.assertEqual(state(Post(3, 1).copied()), state(Post(3, 1)))

    def test_each_goes_on_by_itself(self):
        changes = [lambda post: post.put(of(E)), lambda post: post.make_up(4, [2]), lambda post: post.hears_taken(2, 1),
                   lambda post: post.handed(4, (7, 3, (of(E),))), lambda post: post.handed(5, (1, 3, (of(E),))),
                   lambda post: post.let_go([0]), lambda post: post.let_go([1])]
        for change in changes:
            post = self.made()
            twin = post.copied()
            change(twin)
            self.assertEqual(state(post), state(self.made()))
            after = state(twin)
            self.assertNotEqual(after, state(post))
            change(post)
            self.assertEqual(state(post), after)
            post.make_up(5, [2, 4])
            post.put(of(E, window=9))
            self.assertEqual(state(twin), after)


class Field:
    """Posts of one question, that are told what a seed tells, and all that ever stood anywhere."""

    def __init__(self, seed, lets_go):
        self.chance = random.Random(seed)
        self.many = self.chance.randint(2, 5)
        self.posts = [Post(place, 1) for place in range(self.many)]
        self.lets_go = lets_go
        self.sensed = {}
        self.ever = set()
        # All that was ever spoken: (speaker, parcel), and (speaker, hearer, number taken).
        self.parcels = []
        self.takings = []

    def step(self, turn):
        """Sense, make up, speak, hear, or let go, as chance tells."""
        place = self.chance.randrange(self.many)
        post = self.posts[place]
        others = [other for other in range(self.many) if other != place]
        deed = self.chance.randrange(7)
        if deed == 0:
            window = self.chance.randint(0, 1)
            self.sensed[window, (place, turn)] = self.chance.randint(-9, 9)
            post.put(item_of(1, window, place, turn, self.sensed[window, (place, turn)]))
        elif deed in (1, 2):
            forgotten = [other for other in others if self.chance.random() < 0.2]
            post.make_up(self.chance.choice(others + [None]) if place else None, forgotten)
        elif deed == 3:
            if post.out():
                self.parcels.append((place, post.out()))
            self.takings += [(place, other, post.taken(other)) for other in others]
        elif deed in (4, 5) and self.parcels:
            speaker, parcel = self.chance.choice(self.parcels[-8:] if deed == 4 else self.parcels)
            self.posts[parcel[1]].handed(speaker, parcel)
        elif self.takings:
            speaker, hearer, number = self.chance.choice(self.takings[-9:])
            self.posts[hearer].hears_taken(speaker, number)
        if self.lets_go and self.chance.random() < 0.02:
            post.let_go([self.chance.randint(0, 1)])
        for each in self.standing():
            self.ever.add(each[0])

    def standing(self):
        """All items that stand anywhere now, and whether in a parcel that was taken."""
        told = []
        for place, post in enumerate(self.posts):
            told += [(item, False) for item in post.held()]
            if post.out():
                number, to, items = post.out()
                told += [(item, self.posts[to].taken(place) >= number) for item in items]
        return told

    def rooms(self, window, mark):
        """The places that have a mark in an item, held or in a parcel."""
        return tuple(place for place, post in enumerate(self.posts)
                     if any(item[1] == window and mark in item[2]
                            for item in post.held() + list(post.out()[2] if post.out() else ())))

    def bring_home(self):
        """Let all parcels come to the root by a row of places, and all takings be heard."""
        for _ in range(4 * self.many):
            for place in range(self.many - 1, 0, -1):
                post = self.posts[place]
                post.make_up(place - 1, [other for other in range(self.many) if other != place - 1])
                if post.out():
                    self.posts[place - 1].handed(place, post.out())
                    post.hears_taken(place - 1, self.posts[place - 1].taken(place))


class Fields(unittest.TestCase):

    def test_all_that_ever_stands_is_laminar(self):
        for seed in range(60):
            field = Field(seed, seed % 2 == 0)
            for turn in range(150):
                field.step(turn)
            self.assertIs(is_laminar(sorted(field.ever)), True)

    def test_no_mark_in_two_that_are_not_loose_but_in_a_taken_parcel(self):
        for seed in range(60):
            field = Field(seed, seed % 2 == 0)
            for turn in range(150):
                field.step(turn)
                tight = [mark_and_window for item, taken in field.standing() if not item[6] and not taken
                         for mark_and_window in [(item[1], mark) for mark in item[2]]]
                self.assertEqual(len(tight), len(set(tight)))

    def test_each_mark_is_held_or_in_a_parcel(self):
        for seed in range(60):
            field = Field(seed, False)
            for turn in range(150):
                field.step(turn)
                there = {(item[1], mark) for item, _ in field.standing() for mark in item[2]}
                self.assertEqual(there, set(field.sensed))

    def test_the_figures_are_those_of_the_marks(self):
        for seed in range(60):
            field = Field(seed, seed % 2 == 0)
            for turn in range(150):
                field.step(turn)
            for _, window, marks, *figures, _ in field.ever:
                readings = [field.sensed[window, mark] for mark in marks]
                self.assertEqual(figures, [sum(readings), min(readings), max(readings)])

    def test_the_greatest_that_a_place_holds_count_no_mark_twice(self):
        for seed in range(60):
            field = Field(seed, seed % 2 == 0)
            for turn in range(150):
                field.step(turn)
                for post in field.posts:
                    for window in (0, 1):
                        tops = greatest([item for item in post.held() if item[1] == window])
                        marks = [mark for item in tops for mark in item[2]]
                        self.assertEqual(len(marks), len(set(marks)))
                        self.assertEqual(sum(item[3] for item in tops), sum(field.sensed[window, mark] for mark in marks))

    def test_answers_hold_and_what_lacks_has_its_rooms(self):
        for seed in range(30):
            field = Field(seed, False)
            for turn in range(120):
                field.step(turn)
            for window in (0, 1):
                sensed = [(*mark, reading) for (each, mark), reading in field.sensed.items() if each == window]
                rooms = {row[:2]: field.rooms(window, row[:2]) for row in sensed}
                items = [item for item in field.posts[0].held() if item[1] == window]
                told = answer_of(1, window, 120, items, rooms)
                self.assertIs(answer_holds(sensed, told), True)
                for mark, places in told[9]:
                    self.assertNotIn(0, places)
                    self.assertEqual(places, field.rooms(window, mark))

    def test_a_thing_that_comes_twice_changes_nothing(self):
        for seed in range(30):
            field = Field(seed, True)
            for turn in range(100):
                field.step(turn)
                for speaker, parcel in field.parcels[-5:]:
                    twin = field.posts[parcel[1]].copied()
                    twin.handed(speaker, parcel)
                    before = state(twin)
                    self.assertIs(twin.handed(speaker, parcel), False)
                    self.assertEqual(state(twin), before)
                for speaker, hearer, number in field.takings[-5:]:
                    twin = field.posts[hearer].copied()
                    twin.hears_taken(speaker, number)
                    before = state(twin)
                    twin.hears_taken(speaker, number)
                    self.assertEqual(state(twin), before)

    def test_all_come_in_the_end(self):
        for seed in range(60):
            field = Field(seed, False)
            for turn in range(120):
                field.step(turn)
            field.bring_home()
            tops = greatest(field.posts[0].held())
            self.assertEqual(sorted((item[1], mark) for item in tops for mark in item[2]), sorted(field.sensed))
            self.assertEqual(sum(item[3] for item in tops), sum(field.sensed.values()))


if __name__ == "__main__":
    unittest.main()
