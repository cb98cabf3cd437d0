"""Points 43 to 45 and 51, and points 2, 3, 5, 11, 16 to 18, 22, 35, 37 of them: nets, turn by turn."""

import unittest
from copy import deepcopy

from fields import asking, row_terms, terms_with
from listenfield.answers import answer_of
from listenfield.errors import NoAnswer, NoNumber, TooMany, Unfit, Wrong
from listenfield.net import Net
from listenfield.places import Place
from listenfield.terms import Terms
from listenfield.tracks import way_holds, way_to
from listenfield.weather import Weather
from listenfield.webs import Web
from snapshots import all_told
from things import Whole, all_pairs, is_own, row_pairs, star_pairs


def net_after(terms, many, *questions, **told):
    """A net of terms that was asked questions and did some turns, all with the same weather."""
    net = Net(terms)
    for terms_of in questions:
        net.ask(terms_of)
    turns(net, many, **told)
    return net


def turns(net, many, **told):
    """Let a net do some turns."""
    for _ in range(many):
        net.step(Weather(**told))


def item(*marks, number=1, window=0, loose=False):
    """An item whose readings are ten times the place and the turn."""
    readings = [10 * place + turn for place, turn in marks]
    return number, window, tuple(marks), sum(readings), min(readings), max(readings), loose


LONG = asking(every=20, length=8, lag=100)


class AtFirst(unittest.TestCase):

    def test_nothing_was_done(self):
        terms = terms_with(row_pairs(4), 4, bound=3)
        net = Net(terms)
        self.assertEqual((net.turns(), net.living(), net.cut()), (0, [0, 1, 2, 3], []))
        for told in (net.speeches(), net.hearings(), net.meetings(), net.sensed(), net.answers(), net.takings()):
            self.assertEqual(told, [])
        for at in range(4):
            place = net.place(at)
            self.assertIsInstance(place, Place)
            self.assertEqual((place.at, place.clock.bound(), place.levels.level()),
                             (at, 3 if at else 0, 4 if at else 0))
            self.assertEqual(net.items_at(at), [])
        self.assertEqual((net.rooms(1, 0, (1, 0)), net.holders(1)), ([], []))
        with self.assertRaises(NoAnswer):
            net.reasons(1, 0)

    def test_a_turn_more(self):
        net = Net(row_terms(2))
        for turn in range(5):
            self.assertEqual(net.turns(), turn)
            self.assertIsNone(net.step(Weather()))


class Unfits(unittest.TestCase):

    def test_a_weather_that_does_not_fit_is_refused_and_changes_nothing(self):
        terms = terms_with(row_pairs(3), 3, jitter=2, guard=20)
        net = net_after(terms, 4, LONG, senses=[(2, 0, 5)])
        before = all_told(net, 3)
        for told in ({"dead": [0]}, {"dead": [3]}, {"dead": [1, 1]}, {"senses": [(3, 0, 1)]},
                     {"senses": [(1, 0, 1), (1, 0, 2)]}, {"lost": [(0, 2)]}, {"lost": [(0, 1)], "late": [(0, 1, 3)]},
                     {"jitters": [(0, 1, 3)]}, {"doubled": [(0, 0, 3)]}, {"dead": [1], "lost": [(0, 2)]}):
            with self.assertRaises(Unfit):
                net.step(Weather(**told))
            self.assertEqual(all_told(net, 3), before)
        turns(net, 1)
        self.assertEqual(net.turns(), 5)


class Asking(unittest.TestCase):

    def test_between_turns(self):
        net = Net(row_terms(2))
        self.assertEqual(net.ask(asking(first=0)), 1)
        turns(net, 3)
        self.assertEqual(net.ask(asking(first=3)), 2)
        self.assertEqual(net.change(1, asking(first=9)), 3)
        self.assertIsNone(net.end(2))
        self.assertEqual(net.place(0).listed(), (4, ((3, *asking(first=9)),)))

    def test_the_turn_told_beside_is_the_one_that_comes(self):
        net = Net(row_terms(2))
        turns(net, 3)
        with self.assertRaises(Wrong) as told:
            net.ask(asking(first=2))
        self.assertEqual(told.exception.at, 0)
        net.ask(asking(first=3))
        with self.assertRaises(Wrong):
            net.change(1, asking(first=2))
        self.assertEqual(net.change(1, asking(first=3)), 2)

    def test_refused_as_asking_refuses(self):
        net = Net(row_terms(2))
        for number in range(1, 5):
            self.assertEqual(net.ask(asking()), number)
        before = all_told(net, 2)
        with self.assertRaises(TooMany) as told:
            net.ask(asking())
        self.assertEqual(told.exception.most, 4)
        for number in (0, 5, -1, "1", None):
            for deed in (lambda: net.end(number), lambda: net.change(number, asking())):
                with self.assertRaises(NoNumber) as told:
                    deed()
                self.assertIs(told.exception.number, number)
        self.assertEqual(all_told(net, 2), before)
        self.assertEqual(net.change(2, asking()), 5)

    def test_what_is_asked_goes_on_from_the_next_turn(self):
        net = Net(row_terms(3))
        turns(net, 2)
        net.ask(asking(first=2))
        self.assertEqual(net.holders(1), [0])
        turns(net, 1)
        self.assertEqual(net.holders(1), [0, 1, 2])
        net.end(1)
        self.assertEqual(net.holders(1), [1, 2])
        turns(net, 1)
        self.assertEqual(net.holders(1), [])


class Dying(unittest.TestCase):

    def test_for_ever(self):
        net = Net(row_terms(4))
        turns(net, 3)
        net.step(Weather(dead=[2]))
        self.assertEqual((net.living(), net.cut()), ([0, 1, 3], [3]))
        net.step(Weather(dead=[2, 1]))
        self.assertEqual((net.living(), net.cut()), ([0, 3], [3]))
        turns(net, 2, dead=[1, 2, 3])
        self.assertEqual((net.living(), net.cut()), ([0], []))

    def test_the_dead_do_nothing_and_hold_what_they_held(self):
        net = Net(terms_with(row_pairs(3), 3, bound=4, drift=1, jitter=1, guard=40, quiet=3, listen=1, speak=1))
        net.ask(LONG)
        turns(net, 2, senses=[(at, 0, 7) for at in range(3)])
        turns(net, 1, senses=[(at, 0, 7) for at in range(3)], late=[(0, 1, 3)])
        before, items = net.place(1), net.items_at(1)
        self.assertTrue(items)
        for dead in ([1], [], [1], []):
            net.step(Weather(dead=dead, senses=[(at, 0, 7) for at in range(3)], doubled=[(0, 1, 1)]))
            place = net.place(1)
            for told in (place, before):
                self.assertEqual(told.clock.chain(), place.clock.chain())
                self.assertEqual((told.clock.error(), told.clock.bound()), (place.clock.error(), place.clock.bound()))
                self.assertEqual(told.store.ledger(), place.store.ledger())
                self.assertEqual((told.levels.level(), told.levels.head()), (1, 0))
                self.assertEqual(told.listed(), place.listed())
            self.assertEqual(net.items_at(1), items)
        self.assertEqual([row[:3] for row in net.hearings() if row[0] > 2], [])
        self.assertEqual([row for row in net.speeches() if row[0] > 2 and row[1] == 1], [])
        self.assertEqual([row for row in net.sensed() if row[2][0] == 1 and row[2][1] > 2], [])
        self.assertEqual(net.rooms(1, 0, (1, 2)), [1])
        self.assertEqual(net.holders(1), [0, 1, 2])

    def test_ahead_of_all_else_in_its_turn(self):
        net = Net(terms_with(row_pairs(2), 2, drift=1, guard=40, quiet=3, listen=1))
        net.ask(LONG)
        turns(net, 1, late=[(1, 0, 2), (0, 1, 2)])
        turns(net, 1)
        net.step(Weather(dead=[1], senses=[(1, 0, 5)]))
        self.assertEqual(net.place(1).store.ledger(), [(0, "listen", 1), (0, "speak", 0), (1, "listen", 1),
                                                       (1, "speak", 0)])
        self.assertEqual(net.place(1).clock.bound(), 0)
        self.assertEqual(net.sensed(), [])
        # What it had spoken is still heard, it hears nothing.
        self.assertEqual([row for row in net.hearings() if row[0] == 2], [(2, 1, 0, 0)])


class Time(unittest.TestCase):

    def test_it_goes_on_in_each_turn_but_the_first(self):
        net = Net(terms_with([], 3, bound=5, drift=2, quiet=1, guard=100))
        for turn in range(5):
            net.step(Weather(dead=[2] if turn == 2 else []))
            self.assertEqual([net.place(at).clock.bound() for at in range(3)],
                             [0, 5 + 2 * turn, 5 + 2 * min(turn, 1)])

    def test_who_is_out_of_time_wakes(self):
        net = net_after(terms_with([(0, 1)], 2, plans="wssssss", bound=38, drift=1, guard=39, quiet=1, listen=1), 5,
                        lost=[(0, 1)])
        # Its bound is 38, 39 and then more than the guard.
        self.assertEqual([row[0] for row in net.place(1).store.ledger() if row[1] == "listen"], [0, 2, 3, 4])
        self.assertEqual([row[:2] for row in net.speeches() if row[1] == 1], [(0, 1)])

    def test_meetings(self):
        net = net_after(terms_with(row_pairs(3), 3, bound=30, drift=1, jitter=3, guard=40, quiet=1), 1,
                        jitters=[(0, 1, -2), (1, 2, 3), (1, 0, 3)])
        self.assertEqual(net.meetings(), [(0, 0, 1), (0, 1, 2)])
        self.assertEqual([net.place(at).clock.error() for at in range(3)], [0, -2, 1])
        self.assertEqual([net.place(at).clock.bound() for at in range(3)], [0, 3, 6])
        self.assertEqual(net.place(2).clock.chain(), (0, ((0, 0, 1), (0, 1, 2))))
        turns(net, 1, lost=[(0, 1)])
        self.assertEqual(net.meetings()[2:], [])
        turns(net, 1)
        self.assertEqual(net.meetings()[2:], [(2, 0, 1), (2, 1, 2)])
        # Where no j is told it is 0.
        self.assertEqual([net.place(at).clock.error() for at in range(3)], [0, 0, 0])

    def test_no_meeting_by_what_is_late_or_heard_once_more(self):
        terms = terms_with([(0, 1)], 2, bound=30, drift=1, jitter=3, guard=40, quiet=1)
        for told in ({"late": [(0, 1, 1)]}, {"late": [(0, 1, 2)]}):
            net = net_after(terms, 1, jitters=[(0, 1, 2)], **told)
            turns(net, 3, lost=[(0, 1)])
            self.assertEqual((len(net.hearings()), net.meetings()), (5, []))
        net = net_after(terms, 1, jitters=[(0, 1, 2)], doubled=[(0, 1, 2)])
        turns(net, 3, lost=[(0, 1)], jitters=[(0, 1, 1)])
        self.assertEqual(net.meetings(), [(0, 0, 1)])
        self.assertEqual((net.place(1).clock.error(), net.place(1).clock.bound()), (2, 6))


class Speaking(unittest.TestCase):

    def test_speeches(self):
        places = [(1, 2, 10, 100, "w"), (-2, 0, 10, 100, "ws")]
        terms = Terms(Web(3, row_pairs(3)), places, quiet=1, drift=2, jitter=1, guard=50)
        self.assertEqual((terms.slots_many(), terms.width()), (3, 333333))
        net = Net(terms)
        turns(net, 2, lost=[(0, 1), (1, 2), (1, 0)])
        self.assertEqual(net.speeches(), [
            (0, 0, 50, 333283), (0, 1, 333333 + 50 - 2, 666616 - 2), (0, 2, 666666 + 50, 999949),
            (1, 0, 1000050, 1333283), (1, 1, 1333333 + 50 - 3, 1666616 - 3)])
        self.assertTrue(is_own(net.speeches()))

    def test_slot_by_slot_place_by_place(self):
        # Places 0 and 3, and 1 and 4, have the same slots.
        net = net_after(row_terms(5), 2)
        self.assertEqual([row[1] for row in net.speeches()], [0, 3, 1, 4, 2] * 2)
        self.assertEqual([row[1:3] for row in net.hearings()],
                         [(0, 1), (3, 2), (3, 4), (1, 0), (1, 2), (4, 3), (2, 1), (2, 3)] * 2)

    def test_neighbours_hear_at_once_rising(self):
        net = net_after(terms_with(star_pairs(4), 4), 1, LONG)
        self.assertEqual(net.hearings(), [(0, 0, 1, 0), (0, 0, 2, 0), (0, 0, 3, 0), (0, 1, 0, 0), (0, 2, 0, 0),
                                          (0, 3, 0, 0)])
        self.assertEqual([net.place(at).levels.level() for at in range(4)], [0, 1, 1, 1])

    def test_who_sleeps_neither_speaks_nor_hears(self):
        net = net_after(row_terms(3, plans=["ws", "sw"]), 4)
        self.assertEqual([row[:2] for row in net.speeches()], [(0, 0), (0, 1), (1, 0), (1, 2), (2, 0), (2, 1), (3, 0),
                                                               (3, 2)])
        self.assertEqual([row[:3] for row in net.hearings()], [(0, 0, 1), (0, 1, 0), (2, 0, 1), (2, 1, 0)])

    def test_who_can_not_pay_is_not_heard(self):
        net = net_after(row_terms(2, energy=7, listen=1, speak=2), 5)
        self.assertEqual([row[:2] for row in net.speeches() if row[1] == 1], [(0, 1), (1, 1)])
        self.assertEqual(net.place(1).store.left(), 0)
        # In turn 2 it hears, and then is asleep.
        self.assertEqual([row[0] for row in net.hearings() if row[2] == 1], [0, 1, 2])
        self.assertIs(net.held(0, 1), True)

    def test_lost(self):
        net = net_after(terms_with(all_pairs(3), 3), 1, lost=[(1, 0), (0, 2)])
        self.assertEqual([row[1:3] for row in net.hearings()], [(0, 1), (1, 2), (2, 0), (2, 1)])


class Due(unittest.TestCase):

    def test_late(self):
        net = Net(row_terms(2))
        for turn in range(6):
            net.step(Weather(late=[(0, 1, 3)] if turn == 1 else [], lost=[(0, 1)] if turn > 1 else []))
        self.assertEqual([row for row in net.hearings() if row[2] == 1], [(0, 0, 1, 0), (4, 0, 1, 1)])

    def test_heard_once_more_if_it_was_heard(self):
        net = Net(row_terms(3, plans=["wsww", "w"]))
        net.step(Weather(doubled=[(0, 1, 2), (1, 2, 50)]))
        net.step(Weather(doubled=[(0, 1, 1), (2, 1, 2)]))
        turns(net, 50)
        again = [row for row in net.hearings() if row[0] != row[3]]
        # In turn 1 place 1 is asleep: nothing is heard once more.
        self.assertEqual(again, [(2, 0, 1, 0), (50, 1, 2, 0)])

    def test_late_though_it_sleeps_now(self):
        net = Net(row_terms(2, plans="wsw"))
        turns(net, 1)
        net.step(Weather(late=[(0, 1, 1)]))
        net.step(Weather(lost=[(0, 1)]))
        self.assertEqual([row for row in net.hearings() if row[2] == 1], [(0, 0, 1, 0), (2, 0, 1, 1)])

    def test_never_where_it_is_asleep_then(self):
        net = Net(row_terms(2, plans="wws"))
        turns(net, 1)
        net.step(Weather(late=[(0, 1, 1)]))
        turns(net, 9, lost=[(0, 1)])
        self.assertEqual([row for row in net.hearings() if row[2] == 1], [(0, 0, 1, 0)])

    def test_in_the_order_in_which_it_was_spoken(self):
        net = Net(terms_with(all_pairs(4), 4))
        net.step(Weather(late=[(3, 0, 3), (1, 2, 3), (1, 0, 3), (2, 0, 3)]))
        net.step(Weather(doubled=[(0, 1, 2), (2, 0, 2)]))
        net.step(Weather(late=[(1, 3, 1), (0, 3, 1)], lost=[(2, 3)]))
        turns(net, 1)
        self.assertEqual([row for row in net.hearings() if row[0] == 3][:8], [
            (3, 1, 0, 0), (3, 1, 2, 0), (3, 2, 0, 0), (3, 3, 0, 0), (3, 0, 1, 1), (3, 2, 0, 1), (3, 0, 3, 2),
            (3, 1, 3, 2)])

    def test_by_slots_ahead_of_speakers(self):
        # The slots are 0, 1, 2, 0, 1: place 3 speaks ahead of place 1.
        net = Net(row_terms(5))
        net.step(Weather(late=[(1, 0, 1), (3, 4, 1), (4, 3, 1), (2, 1, 1), (3, 2, 1), (0, 1, 1)]))
        turns(net, 1)
        self.assertEqual([row[1:3] for row in net.hearings() if row[3] < row[0]],
                         [(0, 1), (3, 2), (3, 4), (1, 0), (4, 3), (2, 1)])

    def test_ahead_of_sensing_and_speaking(self):
        # What is heard late tells the question by which is sensed in this turn.
        net = Net(row_terms(2))
        net.ask(LONG)
        net.step(Weather(late=[(0, 1, 1)], senses=[(1, 0, 5)]))
        self.assertEqual(net.sensed(), [])
        net.step(Weather(lost=[(0, 1)], senses=[(1, 0, 11)]))
        self.assertEqual(net.sensed(), [(1, 0, (1, 1), 11)])
        self.assertEqual(net.takings(), [(1, 1, 0, 1, ((0, (1, 1)),))])

    def test_a_dead_speaker_is_heard(self):
        net = Net(row_terms(3))
        net.step(Weather(late=[(1, 0, 2)]))
        net.step(Weather(dead=[1]))
        turns(net, 1)
        self.assertEqual([row for row in net.hearings() if row[0] > 0], [(2, 1, 0, 0)])


class Sensing(unittest.TestCase):

    def test_by_places_then_sorts(self):
        net = Net(row_terms(3))
        for sort in (1, 0):
            net.ask(asking(sort=sort, every=2, length=4, lag=9))
        turns(net, 1)
        net.step(Weather(senses=[(2, 0, 4), (0, 1, -3), (2, 1, 5), (0, 0, 6)]))
        net.step(Weather(senses=[(1, 0, 8)]))
        self.assertEqual(net.sensed(), [
            (2, 0, (0, 1), 6), (1, 0, (0, 1), -3), (2, 0, (2, 1), 4), (1, 0, (2, 1), 5),
            (2, 0, (1, 2), 8), (2, 1, (1, 2), 8)])
        self.assertTrue(is_own(net.sensed()))

    def test_who_sleeps_or_is_out_of_time_senses_nothing(self):
        net = net_after(row_terms(3, plans=["ws", "sw"], bound=0), 1, LONG)
        turns(net, 4, senses=[(at, 0, 1) for at in range(3)])
        self.assertEqual({row[2] for row in net.sensed() if row[2][0] == 1}, {(1, 2), (1, 4)})
        net = net_after(terms_with([(0, 1)], 2, bound=5, guard=4), 1, LONG, lost=[(0, 1)])
        turns(net, 1, senses=[(1, 0, 1)])
        self.assertEqual(net.sensed(), [])
        turns(net, 1, senses=[(1, 0, 1)])
        self.assertEqual(net.sensed(), [(1, 0, (1, 2), 1)])


class Closing(unittest.TestCase):

    def test_an_answer_in_the_turn_in_which_its_window_closes(self):
        net = Net(row_terms(3))
        net.ask(asking(first=2, every=3, length=2, lag=2))
        for turn in range(9):
            self.assertEqual(len(net.answers()), (turn > 5) + (turn > 8))
            net.step(Weather(senses=[(at, 0, 10 * at + turn) for at in (2, 1)]))
        marks = ((1, 2), (1, 3), (2, 2), (2, 3))
        self.assertEqual(net.answers(), [
            answer_of(1, 0, 5, [item(*marks)], {mark: (0,) for mark in marks}),
            answer_of(1, 1, 8, [item((1, 5), (1, 6), (2, 5), (2, 6))],
                      {(at, turn): (0,) for at in (1, 2) for turn in (5, 6)})])
        self.assertEqual(net.answers()[0], (1, 0, 5, marks, 4, 70, 12, 23, (35, 2), ()))
        self.assertTrue(is_own(net.answers()))

    def test_by_questions_then_windows(self):
        net = Net(row_terms(2))
        net.ask(asking(first=1, lag=1))
        net.ask(asking(first=0, lag=2))
        turns(net, 4, senses=[(1, 0, 1), (0, 0, 1)])
        self.assertEqual([answer[:3] for answer in net.answers()], [(1, 0, 2), (2, 0, 2), (1, 1, 3), (2, 1, 3)])

    def test_where_nothing_was_sensed(self):
        net = net_after(row_terms(2), 1, asking())
        self.assertEqual(net.answers(), [(1, 0, 0, (), 0, 0, None, None, None, ())])
        self.assertEqual(net.reasons(1, 0), [])

    def test_what_lacks_and_its_rooms(self):
        net = Net(row_terms(4))
        net.ask(asking(every=4, length=3, lag=2))
        turns(net, 1)
        net.step(Weather(senses=[(at, 0, 10 * at + 1) for at in range(4)], lost=[(1, 0)]))
        net.step(Weather(senses=[(3, 0, 32)], lost=[(1, 0)], dead=[2]))
        turns(net, 2, lost=[(1, 0)])
        # Place 3 speaks ahead of place 2, and hears in the same turn that this one took its parcel.
        (answer,) = net.answers()
        self.assertEqual(answer, (1, 0, 4, ((0, 1),), 1, 1, 1, 1, (1, 1), (
            ((1, 1), (1,)), ((2, 1), (1, 2)), ((3, 1), (1, 2)), ((3, 2), (3,)))))
        self.assertEqual(net.reasons(1, 0), [((1, 1), "late"), ((2, 1), "late"), ((3, 1), "late"), ((3, 2), "cut")])

    def test_reasons_stay_as_they_were_at_the_closing(self):
        net = Net(row_terms(4))
        net.ask(asking(every=20, length=3, lag=3))
        turns(net, 1)
        net.step(Weather(senses=[(at, 0, at) for at in (1, 2, 3)], lost=[(2, 1), (3, 2), (1, 0)]))
        net.step(Weather(dead=[2, 1], lost=[(1, 0)]))
        turns(net, 3, lost=[(1, 0)])
        told = [((1, 1), "dead"), ((2, 1), "dead"), ((3, 1), "cut")]
        self.assertEqual(net.reasons(1, 0), told)
        self.assertEqual([mark for mark, _ in net.answers()[0][9]], [mark for mark, _ in told])
        net.step(Weather(dead=[3]))
        net.end(1)
        turns(net, 2)
        self.assertEqual(net.reasons(1, 0), told)
        self.assertEqual(net.reasons(Whole(1), Whole(0)), told)

    def test_no_answer(self):
        net = net_after(row_terms(2), 3, asking())
        for number, window in ((1, 3), (2, 0), (0, 0), (1, -1), (10 ** 9, 10 ** 9)):
            with self.assertRaises(NoAnswer) as told:
                net.reasons(number, window)
            self.assertEqual((told.exception.number, told.exception.window), (number, window))

    def test_what_is_over_is_let_go_of_behind_the_answer(self):
        net = Net(row_terms(3))
        net.ask(asking(every=2, length=1, lag=3))
        seen = []
        for turn in range(9):
            net.step(Weather(senses=[(at, 0, turn) for at in range(3)], lost=[(1, 0)] if turn > 4 else []))
            windows = [item[1] for at in range(3) for item in net.items_at(at)]
            # Window w has the turn 2 * w, and closes 3 turns later.
            self.assertTrue(all(2 * window + 3 > turn for window in windows), (turn, windows))
            seen.append(sorted(set(windows)))
        self.assertEqual(seen, [[0], [0], [0, 1], [1], [1, 2], [2], [2, 3], [3], [3, 4]])
        self.assertEqual([len(answer[3]) for answer in net.answers()], [1, 3, 2])

    def test_who_sleeps_keeps_what_is_over(self):
        net = Net(row_terms(2, plans="wwsss"))
        net.ask(asking(every=20, length=2, lag=1))
        turns(net, 1)
        net.step(Weather(senses=[(1, 0, 11)], lost=[(1, 0)]))
        turns(net, 3)
        self.assertEqual(net.rooms(1, 0, (1, 1)), [1])
        turns(net, 1)
        self.assertEqual(net.rooms(1, 0, (1, 1)), [])
        self.assertEqual(net.answers()[0][9], (((1, 1), (1,)),))


class Held(unittest.TestCase):

    def test_a_death_breaks_it_in_its_turn_alone(self):
        net = Net(row_terms(3))
        for turn in range(8):
            net.step(Weather(dead=[2] if turn in (3, 5) else []))
        for first in range(8):
            for last in range(first, 8):
                self.assertIs(net.held(first, last), not first <= 3 <= last, (first, last))

    def test_losses_longer_than_quiet(self):
        for quiet in (1, 2, 3):
            net = Net(row_terms(2, quiet=quiet))
            for turn in range(9):
                net.step(Weather(lost=[(1, 0)] if 2 <= turn <= 4 else []))
            for first in range(9):
                for last in range(first, 9):
                    self.assertIs(net.held(first, last), min(4, last) - max(2, first) + 1 < quiet, (quiet, first, last))

    def test_what_is_late_does_not_count(self):
        net = net_after(row_terms(2, quiet=2), 6, late=[(0, 1, 1)])
        self.assertEqual([net.held(first, 5) for first in range(6)], [False] * 5 + [True])

    def test_one_out_of_time_is_not_asked(self):
        net = net_after(terms_with([(0, 1)], 2, bound=5, guard=4, quiet=1), 4, lost=[(0, 1), (1, 0)])
        self.assertIs(net.held(0, 3), False)
        net = net_after(terms_with([(0, 1), (1, 2)], 3, bound=5, guard=4, quiet=1), 4, lost=[(1, 2), (2, 1), (1, 0)])
        self.assertIs(net.held(0, 3), False)
        net = net_after(terms_with([(1, 2)], 3, bound=5, guard=4, quiet=1), 4, lost=[(1, 2), (2, 1)])
        self.assertIs(net.held(0, 3), True)

    def test_those_who_sleep_through_it_break_it(self):
        for plan, told in (("w", True), ("ws", True), ("wss", False), ("wsss", False)):
            net = net_after(row_terms(2, plans=plan, quiet=2), 9)
            self.assertIs(net.held(0, 8), told, plan)

    def test_the_dead_are_not_asked(self):
        net = Net(row_terms(3, quiet=1))
        net.step(Weather(dead=[2]))
        turns(net, 3)
        self.assertIs(net.held(1, 3), True)
        self.assertIs(net.held(0, 0), False)
        net = Net(row_terms(3, quiet=1))
        turns(net, 2, lost=[(2, 1)])
        net.step(Weather(dead=[2]))
        # In the turns ahead of its death it is asked.
        self.assertIs(net.held(0, 1), False)

    def test_of_classes_beneath(self):
        net = net_after(row_terms(2), 3, lost=[(0, 1)])
        self.assertIs(net.held(Whole(0), Whole(2)), False)


class Ways(unittest.TestCase):

    def test_takings(self):
        net = Net(row_terms(3))
        net.ask(LONG)
        net.ask(asking(sort=1, every=1, length=2, lag=50))
        turns(net, 2)
        net.step(Weather(senses=[(2, 1, 5), (2, 0, 6), (1, 0, 7)]))
        turns(net, 2, doubled=[(2, 1, 1)])
        self.assertEqual(net.takings(), [
            (2, 1, 0, 1, ((0, (1, 2)),)), (2, 2, 1, 1, ((0, (2, 2)),)), (2, 2, 1, 2, ((1, (2, 2)), (2, (2, 2)))),
            (3, 1, 0, 1, ((0, (2, 2)),)), (3, 1, 0, 2, ((1, (2, 2)), (2, (2, 2))))])
        self.assertTrue(is_own(net.takings()))
        way = way_to(net.takings(), 2, 1, (2, 2), 0)
        self.assertEqual(way, [net.takings()[2], net.takings()[4]])
        self.assertIs(way_holds(net.takings(), 2, 1, (2, 2), 0, way), True)

    def test_what_is_taken_late_is_told_in_its_turn(self):
        net = Net(row_terms(2))
        net.ask(LONG)
        turns(net, 1)
        net.step(Weather(senses=[(1, 0, 11)], late=[(1, 0, 3)]))
        turns(net, 3, lost=[(1, 0)])
        self.assertEqual(net.takings(), [(4, 1, 0, 1, ((0, (1, 1)),))])


class Told(unittest.TestCase):

    def test_items_of_all_questions_sorted(self):
        net = Net(row_terms(3, quiet=2))
        net.ask(asking(sort=0, every=2, length=4, lag=90))
        net.ask(asking(sort=0, every=20, length=8, lag=90))
        turns(net, 2)
        net.step(Weather(senses=[(2, 0, 22)], lost=[(1, 2)]))
        turns(net, 1, senses=[(2, 0, 23)], lost=[(1, 2)])
        self.assertEqual(net.items_at(2), [item((2, 2)), item((2, 3)), item((2, 2), window=1), item((2, 3), window=1),
                                           item((2, 2), number=2), item((2, 3), number=2)])
        self.assertEqual(net.place(2).post(1).out()[2], (item((2, 2)), item((2, 2), window=1)))
        self.assertTrue(is_own(net.items_at(2)))

    def test_one_that_is_held_and_in_the_parcel_stands_twice(self):
        # In a ring of three, place 2 gives to 1 what comes back from it by another way.
        net = Net(row_terms(3, quiet=20))
        net.ask(LONG)
        turns(net, 1)
        net.step(Weather(senses=[(2, 0, 21)], lost=[(1, 2)]))
        post = net._places[2].post(1)
        post.put(item((2, 1), loose=True))
        self.assertEqual(net.items_at(2), [item((2, 1)), item((2, 1), loose=True)])
        post.put(item((2, 1)))
        self.assertEqual(net.items_at(2), [item((2, 1)), item((2, 1))])

    def test_rooms_and_holders(self):
        net = Net(row_terms(4, quiet=3))
        net.ask(LONG)
        turns(net, 2)
        net.step(Weather(senses=[(3, 0, 32)], lost=[(2, 3), (2, 1)]))
        self.assertEqual(net.rooms(1, 0, (3, 2)), [2, 3])
        self.assertEqual(net.rooms(Whole(1), Whole(0), (Whole(3), Whole(2))), [2, 3])
        net.step(Weather(dead=[3]))
        self.assertEqual(net.rooms(1, 0, (3, 2)), [1, 2, 3])
        for number, window, mark in ((1, 1, (3, 2)), (2, 0, (3, 2)), (1, 0, (3, 1)), (1, 0, (2, 2))):
            self.assertEqual(net.rooms(number, window, mark), [])
        net.end(1)
        turns(net, 2)
        # The dead don't hear that it has ended.
        self.assertEqual((net.rooms(1, 0, (3, 2)), net.holders(1)), ([3], [3]))

    def test_lists_that_are_told_are_new_ones(self):
        net = Net(row_terms(3))
        net.ask(asking(lag=1))
        turns(net, 3, senses=[(2, 0, 5), (1, 0, 4)], lost=[(2, 1)])
        before = deepcopy(all_told(net, 3))
        self.assertTrue(net.reasons(1, 1))
        for told in (net.living(), net.speeches(), net.hearings(), net.meetings(), net.sensed(), net.answers(),
                     net.cut(),
                     net.items_at(1), net.rooms(1, 2, (2, 2)), net.holders(1), net.takings(), net.reasons(1, 1)):
            told.append("more")
            told.reverse()
        self.assertEqual(all_told(net, 3), before)

    def test_a_place_that_is_told_is_a_copy(self):
        net = Net(terms_with(row_pairs(3), 3, bound=3, drift=1, guard=30, quiet=2))
        net.ask(LONG)
        turns(net, 2, senses=[(1, 0, 4)])
        before = all_told(net, 3)
        for at in range(3):
            place = net.place(at)
            place.turn_more()
            place.wakes(2)
            place.speaks(2)
            place.post(1).let_go([0])
            place.levels.hears(1, 0, 9)
            if at == 0:
                place.asking().end(1)
        self.assertEqual(all_told(net, 3), before)
        self.assertEqual(net.place(Whole(2)).at, 2)

    def test_the_waking_of_this_turn_and_what_was_taken_too(self):
        net = Net(row_terms(3, plans=["w", "ws"]))
        net.ask(LONG)
        turns(net, 2, senses=[(1, 0, 4)])
        self.assertIsNotNone(net.place(1).speaks(1))
        self.assertIsNone(net.place(2).speaks(1))
        self.assertEqual(net.place(0).took(), [(1, (1, 0, ((1, 0, ((1, 1),), 4, 4, 4, False),)))])


class Copied(unittest.TestCase):

    def test_alike_and_by_itself(self):
        for which in (0, 1):
            net = Net(row_terms(4, quiet=2))
            net.ask(asking(every=2, length=4, lag=3))
            turns(net, 7, senses=[(at, 0, at) for at in range(4)], late=[(0, 1, 4)], doubled=[(1, 2, 3)], lost=[(3, 2)])
            both = (net, net.copied())
            self.assertEqual(*[all_told(each, 4) for each in both])
            one, other = both[which], both[1 - which]
            before = all_told(other, 4)
            one.ask(asking(first=9, sort=1))
            one.end(1)
            one.change(2, asking(first=8))
            turns(one, 9, dead=[3], senses=[(at, 0, at) for at in range(4)])
            self.assertEqual(all_told(other, 4), before)

    def test_who_is_in_time_in_one_is_not_so_in_the_other(self):
        net = Net(terms_with([(0, 1)], 2, bound=5, guard=4, quiet=2))
        twin = net.copied()
        turns(net, 1)
        # Place 1 comes into time in turn 1 alone.
        turns(twin, 1, lost=[(0, 1)])
        turns(twin, 1, lost=[(1, 0)])
        self.assertIs(twin.held(0, 1), True)

    def test_gone_on_with_they_stay_alike(self):
        net = Net(row_terms(4, quiet=2))
        net.ask(asking(every=2, length=4, lag=9))
        turns(net, 7, senses=[(at, 0, at) for at in range(4)], late=[(0, 1, 4)], doubled=[(1, 2, 3)], lost=[(3, 2)])
        both = (net, net.copied())
        for each in both:
            self.assertEqual(each.ask(asking(first=8)), 2)
            turns(each, 12, senses=[(at, 0, at) for at in range(4)], lost=[(0, 1)])
        self.assertEqual(*[all_told(each, 4) for each in both])


if __name__ == "__main__":
    unittest.main()
