"""Points 41 and 42, and points 2, 3, 9, 11, 22, 25, 30, 31, 36 of them: what a place has, and what it does."""

import unittest

from fields import asking, row_terms, terms_with
from listenfield.clocks import Clock
from listenfield.items import item_of
from listenfield.levels import Levels
from listenfield.message import Message
from listenfield.places import Place
from listenfield.posts import Post
from listenfield.questions import Asking
from listenfield.stores import Store
from things import Whole, is_own, row_pairs, star_pairs

ALL = (1, 0, None, 0, 2, 3, 5)
SOME = (2, 0, (1,), 0, 4, 2, 5)
OTHER = (3, 7, None, 1, 3, 3, 5)
LIST = (4, (ALL, SOME, OTHER))


def message_of(terms, speaker, turn=0, *, clock=None, level=9, told=LIST, taken=(), parcels=()):
    """A message of a place that heard nothing yet."""
    return Message(turn, speaker, clock or Clock(terms, speaker), level, told, taken, parcels)


def told_place(terms, at, turn=0, told=LIST):
    """A place that has heard a list, spoken in turn 0 by one who is far from the root, and is awake in a turn."""
    place = Place(terms, at)
    place.hears(message_of(terms, terms.web.neighbours(at)[0], 0, told=told), 1, 0)
    place.wakes(turn)
    return place


def mark_item(place, turn, reading, number=1, window=0, loose=False):
    """An item of one mark."""
    return item_of(number, window, place, turn, reading)[:6] + (loose,)


class AtFirst(unittest.TestCase):

    def test_what_a_place_has(self):
        terms = terms_with(row_pairs(3), 3, bound=7, energy=50, drift=1, guard=40)
        for at in range(3):
            place = Place(terms, at)
            self.assertEqual(place.at, at)
            self.assertIsInstance(place.clock, Clock)
            self.assertIsInstance(place.store, Store)
            self.assertIsInstance(place.levels, Levels)
            self.assertEqual(place.clock.chain(), (at, ()))
            self.assertEqual(place.clock.bound(), 7 if at else 0)
            self.assertEqual(place.store.left(), 50 if at else None)
            self.assertEqual(place.levels.level(), 3 if at else 0)
            self.assertIsNone(place.levels.head())
            self.assertEqual(place.listed(), (0, ()))
            self.assertIsNone(place.post(1))
            self.assertEqual(place.took(), [])

    def test_only_the_root_has_an_asking(self):
        terms = row_terms(3)
        self.assertIsInstance(Place(terms, 0).asking(), Asking)
        self.assertIsNone(Place(terms, 1).asking())
        self.assertIsNone(Place(terms, 2).asking())

    def test_the_roots_list_is_its_askings(self):
        root = Place(row_terms(2), 0)
        self.assertIs(root.asking(), root.asking())
        root.asking().ask(asking(), 0)
        self.assertEqual(root.listed(), (1, ((1, *asking()),)))
        self.assertEqual(root.listed(), root.asking().listed())
        root.asking().end(1)
        self.assertEqual(root.listed(), (2, ()))

    def test_the_root_hears_no_list(self):
        terms = row_terms(2)
        root = Place(terms, 0)
        root.asking().ask(asking(), 0)
        root.hears(message_of(terms, 1), 0, 0)
        self.assertEqual(root.listed(), (1, ((1, *asking()),)))
        self.assertIsNone(root.post(2))

    def test_the_place_is_pythons_own(self):
        place = Place(row_terms(3), Whole(1))
        self.assertTrue(is_own(place.at))


class Posts(unittest.TestCase):

    def test_a_post_for_each_question_of_the_list(self):
        place = told_place(row_terms(3), 2)
        for number in (1, 2, 3):
            self.assertIsInstance(place.post(number), Post)
            self.assertIs(place.post(number), place.post(number))
            self.assertIs(place.post(Whole(number)), place.post(number))
        self.assertIsNot(place.post(1), place.post(2))
        for number in (0, 4, -1):
            self.assertIsNone(place.post(number))

    def test_the_roots_too(self):
        root = Place(row_terms(2), 0)
        root.asking().ask(asking(), 0)
        post = root.post(1)
        root.asking().ask(asking(), 0)
        self.assertIs(root.post(1), post)
        self.assertIsInstance(root.post(2), Post)
        root.asking().end(1)
        self.assertIsNone(root.post(1))
        self.assertEqual(root.asking().change(2, asking(), 0), 3)
        self.assertIsNone(root.post(2))
        self.assertIsInstance(root.post(3), Post)

    def test_the_post_is_the_very_one_that_is_used(self):
        place = told_place(row_terms(3), 2)
        place.post(1).put(mark_item(2, 0, 5))
        place.levels.hears(1, 1, 1)
        (number, parcel), = place.speaks(0).parcels
        self.assertEqual((number, parcel[1:]), (1, (1, (mark_item(2, 0, 5),))))
        self.assertEqual(place.post(1).out(), parcel)


class Waking(unittest.TestCase):

    def test_by_its_plan(self):
        place = Place(row_terms(2, plans="wss", listen=3), 1)
        self.assertEqual([place.wakes(turn) for turn in range(7)], [True, False, False, True, False, False, True])
        self.assertEqual(place.store.ledger(), [(turn, "listen", 3) for turn in (0, 3, 6)])

    def test_who_is_out_of_time_wakes_in_every_turn(self):
        place = Place(row_terms(2, plans="wss", bound=1, listen=3), 1)
        self.assertEqual([place.wakes(turn) for turn in range(4)], [True] * 4)

    def test_who_can_not_pay_sleeps(self):
        place = Place(row_terms(2, energy=5, listen=3), 1)
        self.assertEqual([place.wakes(turn) for turn in range(3)], [True, False, False])
        self.assertEqual(place.store.left(), 2)

    def test_the_root_always(self):
        root = Place(row_terms(2, listen=3), 0)
        self.assertEqual([root.wakes(turn) for turn in range(5)], [True] * 5)

    def test_its_time_goes_on(self):
        terms = terms_with([(0, 1)], 2, drift=3, guard=100, quiet=2)
        place, root = Place(terms, 1), Place(terms, 0)
        for _ in range(4):
            self.assertIsNone(place.turn_more())
            root.turn_more()
        self.assertEqual((place.clock.bound(), root.clock.bound()), (12, 0))


class Sensing(unittest.TestCase):

    def test_each_question_of_the_sort_that_asks_it_each_window(self):
        place = told_place(row_terms(3), 1, 2)
        # Question 1 has windows 0, 1, .. of the turns 0 to 2, 2 to 4, ..; question 2 of 0 to 1, 4 to 5, ..
        self.assertEqual(place.sense(2, 0, -5), [mark_item(1, 2, -5), mark_item(1, 2, -5, window=1)])
        self.assertEqual(place.post(1).held(), [mark_item(1, 2, -5), mark_item(1, 2, -5, window=1)])
        self.assertEqual(place.post(2).held(), [])
        self.assertEqual(place.sense(2, 7, 9), [mark_item(1, 2, 9, number=3)])
        self.assertEqual(place.post(3).held(), [mark_item(1, 2, 9, number=3)])
        self.assertEqual(place.sense(2, 1, 9), [])

    def test_by_number_then_window(self):
        place = told_place(row_terms(3), 1, 4)
        self.assertEqual([item[:2] for item in place.sense(4, 0, 1)], [(1, 1), (1, 2), (2, 1)])

    def test_only_whom_the_question_asks(self):
        place = told_place(row_terms(3), 2, 4)
        self.assertEqual([item[:2] for item in place.sense(4, 0, 1)], [(1, 1), (1, 2)])

    def test_ahead_of_the_first_turn_nothing(self):
        place = told_place(row_terms(3), 2, 0)
        self.assertEqual(place.sense(0, 7, 1), [])
        place.wakes(1)
        self.assertEqual([item[:2] for item in place.sense(1, 7, 1)], [(3, 0)])

    def test_without_a_list_nothing(self):
        place = Place(row_terms(3), 1)
        place.wakes(0)
        self.assertEqual(place.sense(0, 0, 1), [])

    def test_the_root_senses(self):
        root = Place(row_terms(2), 0)
        root.asking().ask(asking(), 0)
        root.wakes(0)
        self.assertEqual(root.sense(0, 0, 4), [mark_item(0, 0, 4)])
        self.assertEqual(root.post(1).held(), [mark_item(0, 0, 4)])

    def test_who_was_not_woken_in_this_turn_does_nothing(self):
        for woken in ([], [1], [3], [1, 2]):
            place = told_place(row_terms(3, plans="wwsw"), 1, 0)
            for turn in woken:
                place.wakes(turn)
            place.post(1).put(mark_item(1, 0, 5))
            place.levels.hears(0, 0, 2)
            self.assertEqual(place.sense(2, 0, 1), [])
            self.assertIsNone(place.speaks(2))
            place.lets_go(30)
            self.assertEqual(place.post(1).held(), [mark_item(1, 0, 5)])
            self.assertEqual(place.levels.level(), 3)
            self.assertIsNone(place.post(1).out())

    def test_the_root_too_is_to_be_woken(self):
        root = Place(row_terms(2), 0)
        self.assertIsNone(root.speaks(0))
        root.wakes(0)
        self.assertIsNotNone(root.speaks(0))
        self.assertIsNone(root.speaks(1))

    def test_who_is_out_of_time_does_nothing(self):
        place = told_place(row_terms(3, bound=1), 1, 2)
        place.post(1).put(mark_item(1, 0, 5))
        self.assertEqual(place.sense(2, 0, 1), [])
        self.assertIsNone(place.speaks(2))
        self.assertEqual(place.store.ledger(), [(2, "listen", 0)])
        place.wakes(30)
        place.lets_go(30)
        self.assertEqual(place.post(1).held(), [mark_item(1, 0, 5)])

    def test_who_comes_into_time_in_this_turn_does_all(self):
        terms = row_terms(3, bound=1)
        place = told_place(terms, 1, 2)
        self.assertIs(place.hears(message_of(terms, 0, 2, level=0), 2, 0), True)
        self.assertEqual(len(place.sense(2, 0, 1)), 2)
        self.assertIsNotNone(place.speaks(2))

    def test_the_list_that_is_told_is_a_new_one(self):
        place = told_place(row_terms(3), 1, 2)
        place.sense(2, 0, 1).clear()
        self.assertEqual(len(place.post(1).held()), 2)

    def test_what_is_made_is_pythons_own(self):
        place = told_place(row_terms(3), 1, 2)
        self.assertTrue(is_own(place.sense(Whole(2), Whole(0), Whole(4))))


class Speaking(unittest.TestCase):

    def test_what_a_message_has(self):
        terms = terms_with(row_pairs(3), 3, bound=4, drift=1, jitter=2, guard=40, quiet=3)
        place = told_place(terms, 1, 5)
        place.turn_more()
        place.levels.hears(0, 0, 4)
        place.post(1).put(mark_item(1, 5, 3))
        place.post(3).put(mark_item(1, 5, 8, number=3))
        place.post(1).handed(2, (4, 1, (mark_item(2, 4, 6),)))
        place.post(3).handed(2, (7, 1, (mark_item(2, 4, 6, number=3),)))
        place.post(3).handed(0, (2, 1, (mark_item(0, 4, 6, number=3),)))
        message = place.speaks(5)
        self.assertIsInstance(message, Message)
        self.assertEqual((message.turn, message.speaker, message.told_level), (5, 1, 1))
        self.assertEqual((message.clock.error(), message.clock.bound()), (place.clock.error(), place.clock.bound()))
        self.assertEqual(message.clock.chain(), place.clock.chain())
        self.assertIsNot(message.clock, place.clock)
        self.assertEqual(message.told_list, LIST)
        self.assertEqual(message.told_taken, ((1, 2, 4), (3, 0, 2), (3, 2, 7)))
        self.assertEqual(message.parcels, (
            (1, (1, 0, ((1, 0, ((1, 5), (2, 4)), 9, 3, 6, False),))),
            (3, (1, 0, ((3, 0, ((0, 4), (1, 5), (2, 4)), 20, 6, 8, False),)))))
        self.assertTrue(is_own((message.turn, message.speaker, message.told_level, message.told_list,
                                message.told_taken, message.parcels)))

    def test_its_level_is_found_anew_in_its_slot(self):
        place = Place(row_terms(4, quiet=2), 2)
        place.levels.hears(1, 1, 3)
        for turn, level, head in ((3, 2, 1), (5, 2, 1), (6, 4, None)):
            place.wakes(turn)
            self.assertEqual(place.speaks(turn).told_level, level)
            self.assertEqual(place.levels.head(), head)

    def test_the_root_speaks_its_level_and_forgets_as_elsewhere(self):
        terms = row_terms(2, quiet=2)
        root = Place(terms, 0)
        root.levels.hears(1, 1, 0)
        for turn in (0, 3):
            root.wakes(turn)
            self.assertEqual(root.speaks(turn).told_level, 0)
        self.assertEqual(root.levels.at_slot(3, 2), [1])

    def test_the_roots_posts_make_up_nothing(self):
        root = Place(row_terms(2), 0)
        root.asking().ask(asking(), 0)
        root.wakes(0)
        root.sense(0, 0, 4)
        root.levels.hears(1, 1, 0)
        self.assertEqual(root.speaks(0).parcels, ())
        self.assertEqual(root.post(1).held(), [mark_item(0, 0, 4)])
        self.assertEqual(root.post(1).made(), 0)

    def test_the_root_speaks_of_the_questions_that_live_alone(self):
        root = Place(row_terms(2), 0)
        for _ in range(2):
            root.asking().ask(asking(), 0)
        for number in (1, 2):
            root.post(number).handed(1, (3, 0, (mark_item(1, 0, 4, number=number),)))
        root.wakes(0)
        self.assertEqual(root.speaks(0).told_taken, ((1, 1, 3), (2, 1, 3)))
        root.asking().end(1)
        root.wakes(1)
        self.assertEqual(root.speaks(1).told_taken, ((2, 1, 3),))

    def test_without_a_head_nothing_is_made_up(self):
        place = told_place(row_terms(3), 1)
        place.sense(0, 0, 4)
        self.assertEqual(place.speaks(0).parcels, ())
        self.assertEqual(place.post(1).held(), [mark_item(1, 0, 4)])

    def test_a_parcel_stays_out_until_it_is_taken(self):
        place = told_place(row_terms(3, quiet=20), 1)
        place.levels.hears(0, 0, 1)
        place.post(1).put(mark_item(1, 0, 4))
        first = place.speaks(0).parcels
        place.wakes(1)
        place.post(1).put(mark_item(1, 1, 7))
        self.assertEqual(place.speaks(1).parcels, first)
        place.hears(message_of(place._terms, 0, 1, taken=((1, 1, 1),)), 1, 0)
        place.wakes(2)
        self.assertEqual(place.speaks(2).parcels, ((1, (2, 0, (mark_item(1, 1, 7),))),))

    def test_what_went_to_one_that_is_forgotten_comes_back(self):
        terms = terms_with([(0, 1), (0, 2), (1, 3), (2, 3)], 4, quiet=2)
        place = told_place(terms, 3)
        place.levels.hears(1, 1, 1)
        place.levels.hears(2, 1, 2)
        place.post(1).put(mark_item(3, 0, 4))
        self.assertEqual(place.speaks(0).parcels, ((1, (1, 1, (mark_item(3, 0, 4),))),))
        place.wakes(3)
        self.assertEqual(place.speaks(3).parcels, ((1, (1, 1, (mark_item(3, 0, 4),))),))
        place.wakes(4)
        self.assertEqual(place.speaks(4).parcels, ((1, (2, 2, (mark_item(3, 0, 4, loose=True),))),))

    def test_it_pays_for_all_items_in_its_parcels(self):
        place = told_place(row_terms(3, listen=1, speak=10, item=100), 1)
        place.levels.hears(0, 0, 1)
        place.sense(0, 0, 4)
        place.post(1).put(mark_item(1, 1, 4, window=3))
        place.post(2).put(mark_item(1, 1, 5, number=2, loose=True))
        place.post(2).put(mark_item(1, 2, 5, number=2, loose=True))
        self.assertEqual([len(parcel[2]) for _, parcel in place.speaks(0).parcels], [2, 3])
        self.assertEqual(place.store.ledger(), [(0, "listen", 1), (0, "speak", 510)])

    def test_who_can_not_pay_is_silent_and_what_was_made_up_stays(self):
        place = told_place(row_terms(3, energy=11, speak=10, item=1, quiet=3), 1)
        place.levels.hears(0, 0, 1)
        place.post(1).put(mark_item(1, 0, 4))
        place.post(2).put(mark_item(1, 0, 4, number=2))
        self.assertIsNone(place.speaks(0))
        self.assertEqual(place.levels.level(), 1)
        self.assertEqual((place.post(1).held(), place.post(1).made()), ([], 1))
        self.assertEqual(place.post(1).out(), (1, 0, (mark_item(1, 0, 4),)))
        self.assertEqual((place.store.left(), place.store.ledger()), (11, [(0, "listen", 0)]))
        place.hears(message_of(place._terms, 0, 0, told=(5, (ALL,))), 0, 0)
        place.wakes(1)
        self.assertEqual(place.speaks(1).parcels, ((1, (1, 0, (mark_item(1, 0, 4),))),))
        self.assertEqual(place.store.left(), 0)

    def test_a_message_is_what_it_was(self):
        terms = terms_with(row_pairs(3), 3, bound=4, drift=1, guard=40, quiet=3)
        place = told_place(terms, 1)
        place.levels.hears(0, 0, 1)
        place.sense(0, 0, 4)
        message = place.speaks(0)
        kept = (message.clock.bound(), message.clock.chain(), message.told_level, message.told_list,
                message.told_taken, message.parcels)
        place.turn_more()
        place.hears(message_of(terms, 0, 1, level=0, told=(9, ()), taken=((1, 1, 1),)), 1, 0)
        place.wakes(9)
        place.speaks(9)
        self.assertEqual((message.clock.bound(), message.clock.chain(), message.told_level, message.told_list,
                          message.told_taken, message.parcels), kept)


class Hearing(unittest.TestCase):

    def test_the_clock_is_met_in_its_own_turn_for_the_first_time_alone(self):
        terms = terms_with(row_pairs(3), 3, bound=50, jitter=3, guard=40)
        for spoken, turn, first, met in ((4, 4, True, True), (4, 4, False, False), (4, 5, True, False),
                                         (4, 5, False, False), (4, Whole(4), True, True)):
            place = Place(terms, 1)
            self.assertIs(place.hears(message_of(terms, 0, spoken), turn, -2, first=first), met)
            self.assertEqual(place.clock.chain(), (0, ((4, 0, 1),)) if met else (1, ()))
            self.assertEqual((place.clock.error(), place.clock.bound()), (-2, 3) if met else (0, 50))

    def test_first_may_be_left_out(self):
        terms = terms_with(row_pairs(3), 3, bound=50, guard=40)
        self.assertIs(Place(terms, 1).hears(message_of(terms, 0, 4), 4, 0), True)

    def test_no_meeting_where_the_others_bound_is_no_better(self):
        terms = terms_with(row_pairs(3), 3, bound=50, guard=40)
        self.assertIs(Place(terms, 1).hears(message_of(terms, 2, 4), 4, 0), False)

    def test_the_level_is_kept_by_the_turn_in_which_it_was_spoken(self):
        terms = row_terms(4, quiet=20)
        place = Place(terms, 2)
        place.hears(message_of(terms, 1, 4, level=1), 9, 0)
        place.hears(message_of(terms, 1, 3, level=0), 9, 0)
        place.levels.at_slot(9, 20)
        self.assertEqual((place.levels.level(), place.levels.head()), (2, 1))
        self.assertEqual(place.levels.at_slot(25, 20), [1])

    def test_the_list_of_a_greater_version(self):
        terms = row_terms(3)
        place = Place(terms, 1)
        for version, told in ((2, 2), (1, 2), (2, 2), (4, 4), (0, 4)):
            questions = (ALL, (version + 1, *ALL[1:]))
            place.hears(message_of(terms, 0, told=(version, questions)), 0, 0)
            self.assertEqual(place.listed(), (told, (ALL, (told + 1, *ALL[1:]))))
            self.assertIsNotNone(place.post(told + 1))

    def test_a_question_that_goes_goes_with_its_post_and_numbers(self):
        terms = row_terms(3)
        place = told_place(terms, 1)
        place.levels.hears(0, 0, 1)
        for question in LIST[1]:
            place.post(question[0]).put(mark_item(1, 0, 4, number=question[0]))
            place.post(question[0]).handed(2, (5, 1, (mark_item(2, 0, 4, number=question[0]),)))
        place.speaks(0)
        place.post(2).put(mark_item(1, 1, 4, number=2))
        kept = place.post(3)
        place.hears(message_of(terms, 0, 1, told=(5, (OTHER,))), 1, 0)
        self.assertIsNone(place.post(1))
        self.assertIsNone(place.post(2))
        self.assertIs(place.post(3), kept)
        place.wakes(2)
        message = place.speaks(2)
        self.assertEqual((message.told_taken, [number for number, _ in message.parcels]), (((3, 2, 5),), [3]))
        # One that comes again has nothing of what was.
        place.hears(message_of(terms, 0, 2, told=(6, (ALL, OTHER))), 2, 0)
        post = place.post(1)
        self.assertEqual((post.held(), post.out(), post.made(), post.taken(2)), ([], None, 0, 0))

    def test_an_elder_list_takes_nothing_away(self):
        terms = row_terms(3)
        place = told_place(terms, 1)
        place.post(1).put(mark_item(1, 0, 4))
        for version in (0, 3, 4):
            place.hears(message_of(terms, 0, 1, told=(version, ())), 1, 0)
            self.assertEqual(place.post(1).held(), [mark_item(1, 0, 4)])

    def test_its_post_hears_what_was_taken_from_it(self):
        terms = row_terms(3, quiet=20)
        for row, gone in (((1, 1, 1), True), ((1, 1, 9), True), ((1, 2, 1), False), ((1, 0, 1), False),
                          ((2, 1, 1), False), ((7, 1, 1), False), (None, False)):
            place = told_place(terms, 1)
            place.levels.hears(0, 0, 1)
            place.sense(0, 0, 4)
            place.speaks(0)
            place.hears(message_of(terms, 0, taken=(row,) if row else ()), 1, 0)
            self.assertEqual(place.post(1).out() is None, gone, row)

    def test_what_another_one_than_the_head_took_counts_nothing(self):
        terms = row_terms(3, quiet=20)
        place = told_place(terms, 1)
        place.levels.hears(0, 0, 1)
        place.sense(0, 0, 4)
        place.speaks(0)
        place.hears(message_of(terms, 2, taken=((1, 1, 1),)), 1, 0)
        self.assertIsNotNone(place.post(1).out())

    def test_a_parcel_that_goes_to_it_is_taken_once(self):
        terms = row_terms(3)
        place = told_place(terms, 1)
        parcel = (3, 1, (mark_item(2, 0, 4),))
        place.hears(message_of(terms, 2, parcels=((1, parcel),)), 0, 0)
        self.assertEqual(place.took(), [(1, parcel)])
        self.assertEqual((place.post(1).held(), place.post(1).taken(2)), ([mark_item(2, 0, 4)], 3))
        for number in (3, 2, 1):
            place.hears(message_of(terms, 2, parcels=((1, (number, 1, (mark_item(2, 1, 4),))),)), 0, 0)
            self.assertEqual(place.took(), [])
            self.assertEqual(place.post(1).held(), [mark_item(2, 0, 4)])

    def test_what_goes_elsewhere_is_not_taken(self):
        terms = terms_with(star_pairs(4), 4)
        place = told_place(terms, 0)
        place.asking().ask(asking(), 0)
        for to in (1, 2, 3):
            place.hears(message_of(terms, 2, parcels=((1, (3, to, (mark_item(2, 0, 4),))),)), 0, 0)
        self.assertEqual((place.took(), place.post(1).held(), place.post(1).taken(2)), ([], [], 0))

    def test_what_is_of_no_question_of_its_list_is_not_taken(self):
        terms = row_terms(3)
        place = told_place(terms, 1)
        parcels = ((5, (3, 1, (mark_item(2, 0, 4, number=5),))),)
        place.hears(message_of(terms, 2, told=(3, ((5, *ALL[1:]),)), parcels=parcels), 0, 0)
        self.assertEqual(place.took(), [])
        self.assertIsNone(place.post(5))

    def test_the_list_is_heard_ahead_of_the_parcels(self):
        terms = row_terms(3)
        place = Place(terms, 1)
        parcels = ((1, (3, 1, (mark_item(2, 0, 4),))), (2, (1, 1, (mark_item(2, 0, 4, number=2),))))
        place.hears(message_of(terms, 2, parcels=parcels), 0, 0)
        self.assertEqual(place.took(), list(parcels))
        self.assertEqual(place.post(2).held(), [mark_item(2, 0, 4, number=2)])

    def test_parcels_of_ended_questions_are_not_taken(self):
        terms = row_terms(3)
        place = told_place(terms, 1, told=(9, (OTHER,)))
        parcels = ((1, (3, 1, (mark_item(2, 0, 4),))), (3, (1, 1, (mark_item(2, 0, 4, number=3),))))
        place.hears(message_of(terms, 2, parcels=parcels), 0, 0)
        self.assertEqual(place.took(), [parcels[1]])

    def test_took_tells_of_the_last_hearing_alone(self):
        terms = row_terms(3)
        place = told_place(terms, 1)
        place.hears(message_of(terms, 2, parcels=((1, (3, 1, (mark_item(2, 0, 4),))),)), 0, 0)
        place.took().clear()
        self.assertEqual(len(place.took()), 1)
        place.wakes(1)
        place.sense(1, 0, 1)
        place.speaks(1)
        place.lets_go(1)
        self.assertEqual(len(place.took()), 1)
        place.hears(message_of(terms, 0, told=(9, ())), 1, 0)
        self.assertEqual(place.took(), [])

    def test_who_is_out_of_time_or_sleeps_hears_like_any_other_one(self):
        terms = row_terms(3, bound=1)
        place = Place(terms, 1)
        parcels = ((1, (3, 1, (mark_item(2, 0, 4),))),)
        self.assertIs(place.hears(message_of(terms, 2, 5, level=0, parcels=parcels), 6, 0), False)
        self.assertIs(place.clock.in_time(), False)
        self.assertEqual(place.listed(), LIST)
        self.assertEqual(place.took(), list(parcels))
        place.levels.at_slot(5, 1)
        self.assertEqual((place.levels.level(), place.levels.head()), (1, 2))

    def test_what_is_heard_is_made_pythons_own(self):
        terms = row_terms(3)
        place = Place(terms, Whole(1))
        parcels = ((Whole(1), (Whole(3), Whole(1), (tuple(mark_item(2, 0, 4)),))),)
        told = (Whole(3), ((Whole(1), *[Whole(part) if part is not None else None for part in ALL[1:]]),))
        place.hears(message_of(terms, 2, told=told, parcels=parcels), Whole(0), Whole(0))
        self.assertTrue(is_own((place.listed(), place.took(), place.post(1).held())))

    def test_the_same_once_more_changes_nothing_but_what_it_took(self):
        terms = terms_with(row_pairs(3), 3, bound=50, jitter=3, guard=40, quiet=5)
        place = told_place(terms, 1)
        place.levels.hears(0, 0, 1)
        place.sense(0, 0, 1)
        place.speaks(0)
        message = message_of(terms, 2, 1, level=2, told=(5, (ALL, OTHER)), taken=((1, 1, 1),),
                             parcels=((1, (3, 1, (mark_item(2, 0, 4),))),))
        place.hears(message, 1, 0)
        state = all_of(place)
        place.hears(message, 1, 0, first=False)
        place.hears(message, 4, 0)
        self.assertEqual(all_of(place), state)
        self.assertEqual(place.took(), [])


def all_of(place):
    """All that is told of a place but what it took."""
    posts = [place.post(question[0]) for question in place.listed()[1]]
    return (place.clock.error(), place.clock.bound(), place.clock.chain(), place.store.left(), place.store.ledger(),
            place.levels.level(), place.levels.head(), place.levels.copied().at_slot(7, 5), place.listed(),
            [(post.held(), post.out(), post.made(), [post.taken(near) for near in range(10)]) for post in posts])


class LettingGo(unittest.TestCase):

    def test_what_is_over_goes_from_held_and_out(self):
        place = told_place(row_terms(3, quiet=20), 1)
        place.levels.hears(0, 0, 1)
        # Window w of question 1 closes in turn 7 + 2 * w.
        for window in range(4):
            place.post(1).put(mark_item(1, 2 * window, 4, window=window))
        place.speaks(0)
        for window in range(4):
            place.post(1).put(mark_item(1, 2 * window + 1, 4, window=window))
        for turn, least in ((6, 0), (7, 1), (8, 1), (9, 2), (13, 4)):
            place.wakes(turn)
            self.assertIsNone(place.lets_go(turn))
            self.assertEqual([item[1] for item in place.post(1).held()], list(range(least, 4)))
            out = place.post(1).out()
            self.assertEqual([item[1] for item in out[2]] if out else [], list(range(least, 4)))
        self.assertEqual(place.post(1).made(), 1)

    def test_each_question_by_itself(self):
        place = told_place(row_terms(3), 1)
        place.post(1).put(mark_item(1, 0, 4))
        place.post(2).put(mark_item(1, 0, 4, number=2))
        # Window 0 of question 1 closes in turn 7, that of question 2 in turn 6.
        place.wakes(6)
        place.lets_go(6)
        self.assertEqual((len(place.post(1).held()), place.post(2).held()), (1, []))

    def test_the_root_lets_go_too(self):
        root = Place(row_terms(2), 0)
        root.asking().ask(asking(lag=1), 0)
        root.wakes(0)
        root.sense(0, 0, 1)
        root.lets_go(0)
        self.assertEqual(len(root.post(1).held()), 1)
        root.wakes(1)
        root.lets_go(1)
        self.assertEqual(root.post(1).held(), [])

    def test_far_turns_take_no_time(self):
        place = told_place(row_terms(3), 1)
        place.post(1).put(mark_item(1, 0, 4))
        for turn in range(10 ** 6 - 500, 10 ** 6):
            place.wakes(turn)
            place.lets_go(turn)
        self.assertEqual(place.post(1).held(), [])


class Copied(unittest.TestCase):

    def test_alike(self):
        terms = terms_with(row_pairs(3), 3, bound=50, jitter=3, guard=60, quiet=5)
        place = told_place(terms, 1)
        place.levels.hears(0, 0, 1)
        place.sense(0, 0, 1)
        place.hears(message_of(terms, 0, 0), 0, 2)
        place.hears(message_of(terms, 2, 0, parcels=((1, (3, 1, (mark_item(2, 0, 4),))),)), 0, 0)
        self.assertEqual((place.clock.error(), place.clock.bound()), (2, 3))
        twin = place.copied()
        self.assertEqual((twin.at, all_of(twin), twin.took()), (1, all_of(place), place.took()))
        self.assertIsNone(twin.asking())
        self.assertIs(twin.hears(message_of(terms, 0, 1), 1, 0), False)
        self.assertIs(place.hears(message_of(terms, 0, 1), 1, 0), False)
        # The waking of this turn, too.
        self.assertEqual(twin.speaks(0).parcels, place.speaks(0).parcels)
        self.assertEqual(all_of(twin), all_of(place))

    def test_neither_knows_of_the_other_one(self):
        terms = terms_with(row_pairs(3), 3, bound=50, jitter=3, guard=60, quiet=5, listen=1)
        for which in (0, 1):
            place = told_place(terms, 1)
            place.levels.hears(0, 0, 1)
            place.sense(0, 0, 1)
            both = (place, place.copied())
            one, other = both[which], both[1 - which]
            state, took = all_of(other), other.took()
            one.turn_more()
            one.wakes(1)
            one.sense(1, 0, 1)
            one.post(1).put(mark_item(2, 1, 4))
            one.speaks(1)
            one.hears(message_of(terms, 0, 1, level=0, told=(7, (ALL,)), taken=((1, 1, 1),)), 1, 0)
            one.hears(message_of(terms, 2, 2, parcels=((1, (3, 1, (mark_item(2, 0, 4),))),)), 2, 0)
            self.assertEqual((all_of(other), other.took()), (state, took))
            self.assertIsNone(other.speaks(1))
            self.assertIsNotNone(other.speaks(0))

    def test_the_roots_asking_too(self):
        root = Place(row_terms(2), 0)
        root.asking().ask(asking(), 0)
        twin = root.copied()
        root.asking().ask(asking(sort=1), 0)
        self.assertEqual(len(twin.listed()[1]), 1)
        self.assertIsNone(twin.post(2))
        self.assertEqual(twin.asking().ask(asking(sort=2), 0), 2)
        twin.asking().end(1)
        self.assertEqual([question[1] for question in root.listed()[1]], [0, 1])

    def test_of_the_very_same_terms(self):
        terms = row_terms(3, bound=1)
        place = Place(terms, 1).copied()
        self.assertIs(place.hears(message_of(terms, 0), 0, 0), True)
        self.assertIs(Place(terms, 2).copied().hears(message_of(terms, 1, clock=place.clock.copied()), 0, 0), True)


if __name__ == "__main__":
    unittest.main()
