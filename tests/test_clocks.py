"""Points 18 to 21, and points 2 to 4, 7 and 26 of them: clocks, bounds, chains, and whether these hold."""

import random
import unittest

from listenfield.clocks import Clock, bound_of, chain_holds
from listenfield.errors import FieldError, Wrong
from listenfield.terms import Terms
from listenfield.webs import Web
from things import (Like, Other, Pair, Row, Sly, Whole, all_pairs, is_own, ring_pairs, row_pairs, star_pairs,
                    strange_things)

# (rate, error, bound, energy, plan) of the places 1 to 3
PLACES = [(2, -30, 100, 0, "w"), (-3, 40, 200, 0, "w"), (0, 0, 15, 0, "w")]
STRANGE = strange_things() + [Other(), Like(), Clock, Terms, "clock", 5]


def terms_of(**named):
    """Terms of four places in a row."""
    told = {"quiet": 1, "drift": 3, "jitter": 7, "guard": 120}
    told.update(named)
    return Terms(Web(4, row_pairs(4)), PLACES, **told)


def state(clock):
    """All that a clock tells."""
    return clock.error(), clock.bound(), clock.chain(), clock.in_time()


class SlyTerms(Terms):
    """Terms that tell that they are like everything."""

    def __eq__(self, other):
        return True

    __hash__ = None


class Alone(unittest.TestCase):

    def test_at_first_as_the_terms_tell(self):
        terms = terms_of()
        self.assertEqual(state(Clock(terms, 0)), (0, 0, (0, ()), True))
        self.assertEqual(state(Clock(terms, 1)), (-30, 100, (1, ()), True))
        self.assertEqual(state(Clock(terms, 2)), (40, 200, (2, ()), False))
        self.assertEqual(state(Clock(terms, 3)), (0, 15, (3, ()), True))

    def test_a_turn_more(self):
        terms = terms_of()
        clocks = [Clock(terms, place) for place in range(4)]
        for turns in range(1, 30):
            for clock in clocks:
                self.assertIsNone(clock.turn_more())
            self.assertEqual([clock.error() for clock in clocks], [0, -30 + 2 * turns, 40 - 3 * turns, 0])
            self.assertEqual([clock.bound() for clock in clocks],
                             [0, 100 + 3 * turns, 200 + 3 * turns, 15 + 3 * turns])
            self.assertEqual([clock.chain() for clock in clocks], [(at, ()) for at in range(4)])

    def test_in_time_up_to_the_guard(self):
        for guard in (100, 101, 200):
            terms = Terms(Web(2, [(0, 1)]), [(0, 0, 90, 0, "w")], drift=1, guard=guard)
            clock = Clock(terms, 1)
            for turn in range(150):
                self.assertIs(clock.in_time(), 90 + turn <= guard)
                clock.turn_more()
        terms = Terms(Web(2, []), [(0, 0, 1, 0, "w")])
        self.assertIs(Clock(terms, 1).in_time(), False)
        self.assertIs(Clock(terms, 0).in_time(), True)
        self.assertIs(Clock(Terms(Web(2, []), [(0, 0, 0, 0, "w")]), 1).in_time(), True)

    def test_without_drift_nothing_goes_on(self):
        clock = Clock(Terms(Web(2, []), [(0, 4, 5, 0, "w")], guard=5), 1)
        clock.turn_more()
        self.assertEqual(state(clock), (4, 5, (1, ()), True))

    def test_of_terms_and_a_place_of_them(self):
        terms = terms_of()
        for thing in STRANGE + [None, Web(2, [])]:
            for place in (1, None):
                with self.assertRaises(Wrong) as caught:
                    Clock(thing, place)
                self.assertEqual(caught.exception.at, 0)
        for thing in STRANGE + [-1, 4, 10, 10 ** 30, Sly(4), Sly(-1)]:
            with self.assertRaises(Wrong) as caught:
                Clock(terms, thing)
            self.assertEqual(caught.exception.at, 1)
            self.assertIs(type(caught.exception), Wrong)
            self.assertIsInstance(caught.exception, FieldError)

    def test_told_in_pythons_own_kinds(self):
        for number in (Whole, Sly):
            places = [tuple(number(part) for part in told[:4]) + ("w",) for told in PLACES]
            terms = Terms(Web(4, row_pairs(4)), places, drift=number(3), jitter=number(7), guard=number(120))
            clock, other = Clock(terms, number(1)), Clock(terms, number(0))
            clock.turn_more()
            self.assertEqual(state(clock), (-28, 103, (1, ()), True))
            self.assertTrue(is_own(list(state(clock))))
            self.assertIs(clock.hears(other, number(5), number(-2)), True)
            self.assertEqual(state(clock), (-2, 7, (0, ((5, 0, 1),)), True))
            self.assertTrue(is_own(list(state(clock))))
            told = bound_of(terms, Pair((number(0), Pair((Pair((number(5), number(0), number(1))),)))), number(9))
            self.assertEqual((told, type(told)), (19, int))


class Hears(unittest.TestCase):

    def test_a_meeting(self):
        terms = terms_of()
        clock = Clock(terms, 1)
        self.assertIs(clock.hears(Clock(terms, 0), 4, -5), True)
        self.assertEqual(state(clock), (-5, 7, (0, ((4, 0, 1),)), True))
        clock.turn_more()
        self.assertEqual(state(clock), (-3, 10, (0, ((4, 0, 1),)), True))
        other = Clock(terms, 2)
        self.assertIs(other.hears(clock, 5, 7), True)
        self.assertEqual(state(other), (4, 17, (0, ((4, 0, 1), (5, 1, 2))), True))

    def test_the_others_error_and_bound_count(self):
        terms = terms_of()
        clock = Clock(terms, 2)
        self.assertIs(clock.hears(Clock(terms, 3), 0, 6), True)
        self.assertEqual(state(clock), (6, 22, (3, ((0, 3, 2),)), True))
        clock = Clock(terms, 2)
        self.assertIs(clock.hears(Clock(terms, 1), 0, -6), True)
        self.assertEqual(state(clock), (-36, 107, (1, ((0, 1, 2),)), True))

    def test_no_meeting_where_the_bound_is_not_less(self):
        terms = terms_of()
        for hearer, speaker in ((1, 2), (3, 1), (3, 2), (1, 1), (0, 1), (0, 3), (0, 0)):
            clock = Clock(terms, hearer)
            before = state(clock)
            self.assertIs(clock.hears(Clock(terms, speaker), 3, 1), False)
            self.assertEqual(state(clock), before)

    def test_just_where_the_others_bound_and_the_jitter_are_less(self):
        for bound, reach in ((8, True), (7, False), (6, False), (9, True), (0, False)):
            terms = Terms(Web(2, [(0, 1)]), [(0, 0, bound, 0, "w")], jitter=7, guard=20)
            self.assertIs(Clock(terms, 1).hears(Clock(terms, 0), 0, 0), reach)
        for bound in range(20, 40):
            terms = Terms(Web(3, row_pairs(3)), [(0, 0, 25, 0, "w"), (0, 0, bound, 0, "w")], jitter=7, guard=40)
            clock = Clock(terms, 2)
            self.assertIs(clock.hears(Clock(terms, 1), 0, 0), bound > 32)
            self.assertEqual(clock.bound(), min(bound, 32))

    def test_heard_again_it_is_no_meeting(self):
        terms = terms_of()
        clock = Clock(terms, 1)
        self.assertIs(clock.hears(Clock(terms, 0), 2, 3), True)
        self.assertIs(clock.hears(Clock(terms, 0), 2, -3), False)
        self.assertEqual(state(clock), (3, 7, (0, ((2, 0, 1),)), True))
        clock.turn_more()
        self.assertIs(clock.hears(Clock(terms, 0), 3, -3), True)
        self.assertEqual(state(clock), (-3, 7, (0, ((3, 0, 1),)), True))

    def test_without_jitter(self):
        terms = Terms(Web(2, [(0, 1)]), [(0, 3, 5, 0, "w")], guard=5)
        clock = Clock(terms, 1)
        self.assertIs(clock.hears(Clock(terms, 0), 0, 0), True)
        self.assertEqual(state(clock), (0, 0, (0, ((0, 0, 1),)), True))
        self.assertIs(clock.hears(Clock(terms, 0), 0, 0), False)

    def test_the_other_ones_chain_is_as_it_was_then(self):
        terms = terms_of()
        first, second, third = (Clock(terms, place) for place in (1, 2, 3))
        first.hears(Clock(terms, 0), 0, 0)
        second.hears(first, 0, 0)
        told = second.chain()
        for _ in range(40):
            first.turn_more()
            second.turn_more()
            third.turn_more()
        first.hears(Clock(terms, 0), 40, 0)
        self.assertEqual(second.chain(), told)
        self.assertEqual(first.chain(), (0, ((40, 0, 1),)))
        self.assertIs(second.hears(first, 40, 0), True)
        self.assertIs(third.hears(second, 40, 0), True)
        self.assertEqual(third.chain(), (0, ((40, 0, 1), (40, 1, 2), (40, 2, 3))))
        self.assertEqual(third.bound(), 21)

    def test_the_heard_one_is_not_changed(self):
        terms = terms_of()
        clock, other = Clock(terms, 2), Clock(terms, 1)
        before = state(other)
        clock.hears(other, 7, 1)
        self.assertEqual(state(other), before)
        clock.turn_more()
        self.assertEqual(state(other), before)
        other.turn_more()
        self.assertEqual(clock.bound(), 110)


class Refused(unittest.TestCase):

    def refused(self, at, *things):
        before = state(self.clock)
        with self.assertRaises(Wrong) as caught:
            self.clock.hears(*things)
        self.assertEqual((caught.exception.at, type(caught.exception)), (at, Wrong))
        self.assertEqual(state(self.clock), before)

    def setUp(self):
        self.terms = terms_of()
        self.clock = Clock(self.terms, 1)
        self.root = Clock(self.terms, 0)

    def test_a_clock_of_the_very_same_terms(self):
        for thing in STRANGE + [self.terms]:
            self.refused(0, thing, 0, 0)
            self.refused(0, thing, None, None)
        self.refused(0, Clock(terms_of(), 0), 0, 0)
        self.refused(0, Clock(terms_of(), 0), -1, 8)
        self.assertIs(self.clock.hears(self.root, 0, 0), True)

    def test_terms_that_are_like_others_are_not_the_same(self):
        one, other = (SlyTerms(Web(4, row_pairs(4)), PLACES, drift=3, jitter=7, guard=120) for _ in range(2))
        self.clock = Clock(one, 1)
        self.refused(0, Clock(other, 0), 0, 0)
        self.refused(0, self.root, 0, 0)
        self.assertIs(self.clock.hears(Clock(one, 0), 0, 0), True)
        self.clock = Clock(self.terms, 1)
        self.refused(0, Clock(one, 0), 0, 0)

    def test_a_turn_from_nought_on(self):
        for thing in STRANGE[:-1] + [-1, -(10 ** 30), Sly(-1)]:
            self.refused(1, self.root, thing, 0)
            self.refused(1, self.root, thing, 99)
        for turn in (0, 1, 10 ** 6, 10 ** 6 + 1, 10 ** 30):
            clock = Clock(self.terms, 1)
            self.assertIs(clock.hears(self.root, turn, 0), True)
            self.assertEqual(clock.chain(), (0, ((turn, 0, 1),)))

    def test_a_shift_within_the_jitter(self):
        for thing in STRANGE[:-1] + [-8, 8, 10 ** 9, -(10 ** 30), Sly(8), Sly(-8)]:
            self.refused(2, self.root, 0, thing)
        for j in range(-7, 8):
            clock = Clock(self.terms, 1)
            self.assertIs(clock.hears(self.root, 0, j), True)
            self.assertEqual(clock.error(), j)

    def test_refused_ahead_of_all_else(self):
        self.clock = Clock(self.terms, 0)
        self.refused(0, None, 0, 0)
        self.refused(1, self.clock, -1, 0)
        self.refused(2, Clock(self.terms, 2), 0, 8)


class Copied(unittest.TestCase):

    def test_it_is_alike(self):
        terms = terms_of()
        for place in range(4):
            clock = Clock(terms, place)
            self.assertEqual(state(clock.copied()), state(clock))
            clock.turn_more()
            clock.hears(Clock(terms, 3), 1, 2)
            self.assertEqual(state(clock.copied()), state(clock))
            self.assertEqual(state(clock.copied().copied()), state(clock))

    def test_each_goes_on_by_itself(self):
        terms = terms_of()
        for change in (lambda clock: clock.turn_more(), lambda clock: clock.hears(Clock(terms, 0), 9, 4)):
            clock = Clock(terms, 2)
            clock.hears(Clock(terms, 1), 3, 1)
            twin = clock.copied()
            before = state(clock)
            change(twin)
            self.assertNotEqual(state(twin), before)
            self.assertEqual(state(clock), before)
            after = state(twin)
            change(clock)
            self.assertEqual(state(clock), after)
            change(clock)
            clock.turn_more()
            self.assertEqual(state(twin), after)

    def test_it_goes_on_as_the_elder_would(self):
        terms = terms_of()
        for place in range(4):
            clock = Clock(terms, place)
            clock.hears(Clock(terms, 3), 0, -7)
            twin = clock.copied()
            for turn in range(1, 10):
                for each in (clock, twin):
                    each.turn_more()
                    if turn == 5:
                        each.hears(Clock(terms, 0), turn, 6)
                self.assertEqual(state(twin), state(clock))

    def test_it_is_of_the_very_same_terms(self):
        terms = terms_of()
        self.assertIs(Clock(terms, 1).hears(Clock(terms, 0).copied(), 0, 0), True)
        self.assertIs(Clock(terms, 1).copied().hears(Clock(terms, 0), 0, 0), True)


class BoundOf(unittest.TestCase):

    def test_of_chains_from_the_root(self):
        terms = terms_of()
        for turn in (0, 5, 10 ** 6):
            self.assertEqual(bound_of(terms, (0, ()), turn), 0)
        self.assertEqual(bound_of(terms, (0, ((4, 0, 1),)), 4), 7)
        self.assertEqual(bound_of(terms, (0, ((4, 0, 1),)), 9), 7 + 15)
        self.assertEqual(bound_of(terms, (0, ((4, 0, 1), (6, 1, 2), (6, 2, 3))), 9), 21 + 15)
        self.assertEqual(bound_of(terms, (0, ((0, 0, 1), (6, 1, 2))), 10 ** 6), 14 + 3 * 10 ** 6)

    def test_of_chains_from_elsewhere(self):
        terms = terms_of()
        self.assertEqual([bound_of(terms, (place, ()), 0) for place in (1, 2, 3)], [100, 200, 15])
        self.assertEqual([bound_of(terms, (place, ()), 10) for place in (1, 2, 3)], [130, 230, 45])
        self.assertEqual(bound_of(terms, (3, ((4, 3, 2),)), 4), 15 + 7 + 12)
        self.assertEqual(bound_of(terms, (3, ((4, 3, 2), (5, 2, 1))), 9), 15 + 14 + 27)


class Field:
    """Clocks that go on and hear each other by a seed, and all their hearings."""

    def __init__(self, seed):
        chance = random.Random(seed)
        many = chance.randint(2, 7)
        pairs = chance.choice([row_pairs, ring_pairs, star_pairs, all_pairs])(many)
        drift, jitter, quiet = chance.randint(0, 4), chance.randint(0, 5), chance.randint(1, 4)
        places = []
        for _ in range(many - 1):
            bound = chance.choice([0, 10, 100, 1000])
            places.append((chance.randint(-drift, drift), chance.randint(-bound, bound), bound, 0, "w"))
        guard = many * (jitter + drift * (quiet + 1)) + chance.choice([0, 50])
        self.chance = chance
        self.terms = Terms(Web(many, pairs), places, quiet=quiet, drift=drift, jitter=jitter, guard=guard)
        self.clocks = [Clock(self.terms, place) for place in range(many)]
        self.ends = [None] * many
        self.hearings = []
        self.turn = -1

    def living(self):
        return [place for place, end in enumerate(self.ends) if end is None]

    def step(self, loss):
        """Go on by a turn, in which each hearing is lost where loss tells so."""
        self.turn += 1
        for place in self.living():
            if self.turn > 0:
                self.clocks[place].turn_more()
        slots = self.terms.web.slots()
        for speaker in sorted(self.living(), key=lambda place: (slots[place], place)):
            for hearer in self.terms.web.neighbours(speaker):
                if hearer in self.living() and not loss(self.turn, speaker, hearer):
                    j = self.chance.randint(-self.terms.jitter, self.terms.jitter)
                    self.hearings.append((self.turn, speaker, hearer))
                    self.clocks[hearer].hears(self.clocks[speaker].copied(), self.turn, j)

    def die(self, place):
        """Let a place die ahead of the next turn."""
        self.ends[place] = max(self.turn, 0)

    def last(self, place):
        """The last turn in which a place lived."""
        return self.turn if self.ends[place] is None else self.ends[place]


def played(seed, turns=25):
    """A field after some turns in which much is lost, and some die."""
    field = Field(seed)
    for turn in range(turns):
        if field.chance.random() < 0.1 and turn > 0 and len(field.living()) > 1:
            field.die(field.chance.choice(field.living()[1:]))
        field.step(lambda *hearing: field.chance.random() < 0.6)
        yield field


class Fields(unittest.TestCase):

    def test_no_error_is_farther_than_its_bound(self):
        for seed in range(60):
            for field in played(seed):
                for clock in field.clocks:
                    self.assertLessEqual(abs(clock.error()), clock.bound())

    def test_the_chain_shows_the_bound(self):
        for seed in range(30):
            for field in played(seed):
                for place, clock in enumerate(field.clocks):
                    turn = field.last(place)
                    self.assertEqual(bound_of(field.terms, clock.chain(), turn), clock.bound())
                    self.assertIs(chain_holds(field.terms, field.hearings, clock.chain(), place, turn, clock.bound()),
                                  True)

    def test_no_place_is_twice_in_a_chain(self):
        for seed in range(60):
            for field in played(seed):
                for clock in field.clocks:
                    origin, meetings = clock.chain()
                    hearers = [hearer for _, _, hearer in meetings]
                    self.assertEqual(len({origin, *hearers}), 1 + len(hearers))

    def test_where_the_bound_of_loss_is_held_all_with_a_road_are_in_time(self):
        for seed in range(40):
            field = Field(seed)
            quiet, many = field.terms.quiet, field.terms.many()
            start = field.chance.randint(0, 10)
            for _ in range(start):
                field.step(lambda *hearing: True)
            if field.chance.random() < 0.5:
                field.die(field.chance.randint(1, many - 1))
            heard_at = {}

            def loss(turn, speaker, hearer):
                # Heard just when the quiet turns are up: no bound of loss could be used up more.
                if turn - heard_at.get((speaker, hearer), start - 1) < quiet:
                    return True
                heard_at[speaker, hearer] = turn
                return False

            for _ in range((many + 1) * (quiet + 1) + 2 * quiet):
                field.step(loss)
                far = field.terms.web.distances(field.living())
                if field.turn >= start + (many + 1) * (quiet + 1):
                    for place in field.living():
                        if far[place] is not None:
                            stray = field.terms.jitter + field.terms.drift * (quiet + 1)
                            self.assertLessEqual(field.clocks[place].bound(), far[place] * stray)
                            self.assertIs(field.clocks[place].in_time(), True)


class ChainHolds(unittest.TestCase):

    def setUp(self):
        self.terms = terms_of()
        self.hearings = [(0, 0, 1), (0, 1, 2), (1, 0, 1), (1, 1, 0), (1, 1, 2), (1, 2, 3), (3, 2, 3), (3, 2, 1)]

    def holds(self, chain, place, turn, bound, hearings=None):
        told = chain_holds(self.terms, self.hearings if hearings is None else hearings, chain, place, turn, bound)
        self.assertIs(type(told), bool)
        return told

    def test_right_ones(self):
        self.assertIs(self.holds((0, ()), 0, 5, 0), True)
        self.assertIs(self.holds((2, ()), 2, 5, 215), True)
        self.assertIs(self.holds((0, ((0, 0, 1),)), 1, 3, 16), True)
        self.assertIs(self.holds((0, ((0, 0, 1), (0, 1, 2))), 2, 3, 23), True)
        self.assertIs(self.holds((0, ((0, 0, 1), (1, 1, 2), (3, 2, 3))), 3, 3, 30), True)
        self.assertIs(self.holds((1, ((1, 1, 2), (3, 2, 3))), 3, 4, 126), True)
        self.assertIs(self.holds((2, ((3, 2, 1),)), 1, 3, 216), True)

    def test_a_place_may_be_twice_in_it(self):
        self.assertIs(self.holds((1, ((1, 1, 2), (3, 2, 1))), 1, 3, 123), True)

    def test_other_bounds(self):
        chain = (0, ((0, 0, 1), (0, 1, 2)))
        for thing in STRANGE[:-1] + [22, 24, 0, -23, 10 ** 30, [23], (23,), "23", Sly(22), Like()]:
            self.assertIs(self.holds(chain, 2, 3, thing), False)
        for thing in (True, False, None, 1):
            self.assertIs(self.holds((0, ()), 0, 3, thing), False)

    def test_other_turns(self):
        chain = (0, ((0, 0, 1), (1, 1, 2)))
        self.assertIs(self.holds(chain, 2, 1, 17), True)
        self.assertIs(self.holds(chain, 2, 0, 14), False)
        self.assertIs(self.holds((0, ((1, 0, 1),)), 1, 0, 4), False)
        self.assertIs(self.holds((1, ()), 1, 10 ** 6, 100 + 3 * 10 ** 6), True)
        self.assertIs(self.holds((1, ()), 1, 10 ** 6 + 1, 103 + 3 * 10 ** 6), False)
        self.assertIs(self.holds((1, ()), 1, -1, 97), False)
        self.assertIs(self.holds((0, ()), 0, -1, 0), False)
        for thing in STRANGE[:-1] + [True, Like(), "1", [1], Sly(-1)]:
            self.assertIs(self.holds((0, ()), 0, thing, 0), False)

    def test_other_places(self):
        chain = (0, ((0, 0, 1), (0, 1, 2)))
        for thing in STRANGE[:-1] + [0, 1, 3, 4, -1, Like(), "2", [2], (2,), True]:
            self.assertIs(self.holds(chain, thing, 3, 23), False)
        for thing in STRANGE[:-1] + [0, 2, 3, -1, Like()]:
            self.assertIs(self.holds((1, ()), thing, 0, 100), False)
        self.assertIs(self.holds((0, ()), False, 0, 0), False)

    def test_other_origins(self):
        meetings = ((0, 0, 1), (0, 1, 2))
        for thing in STRANGE[:-1] + [1, 2, 3, 4, -1, Like()]:
            self.assertIs(self.holds((thing, meetings), 2, 3, 23), False)
        for thing in STRANGE[:-1] + [True, 4, -1, 10, Like()]:
            for bound in (0, 100):
                self.assertIs(self.holds((thing, ()), thing, 0, bound), False)

    def test_it_is_a_chain(self):
        right = (0, ((0, 0, 1),))
        self.assertIs(self.holds(right, 1, 0, 7), True)
        for thing in STRANGE + [[0, right[1]], (0, list(right[1])), (0,), right + ((),), (0, right[1][0]), (right[1], 0),
                                (0, ((0, 0, 1), None)), (0, None), (0, ([0, 0, 1],)), (0, ((0, 0),)), (0, "01"),
                                (0, ((0, 0, 1, 0),)), (0, {(0, 0, 1)}), (0, {(0, 0, 1): 1}), right[1], {0: right[1]}]:
            self.assertIs(self.holds(thing, 1, 0, 7), False)
        for at in range(3):
            for thing in STRANGE:
                row = (0, 0, 1)[:at] + (thing,) + (0, 0, 1)[at + 1:]
                self.assertIs(self.holds((0, (row,)), 1, 0, 7), False)

    def test_truths_are_no_numbers_in_it(self):
        self.assertIs(self.holds((False, ((0, 0, 1),)), 1, 0, 7), False)
        self.assertIs(self.holds((0, ((0, 0, True),)), 1, 0, 7), False)
        self.assertIs(self.holds((0, ((False, 0, 1),)), 1, 0, 7), False)
        self.assertIs(self.holds((0, ((0, False, 1),)), 1, 0, 7), False)

    def test_each_meeting_is_a_hearing(self):
        for meeting in ((2, 0, 1), (0, 0, 2), (0, 0, 3), (0, 3, 1), (1, 0, 2)):
            chain = (meeting[1], (meeting,))
            for turn in (3, 5):
                bound = bound_of(self.terms, chain, turn)
                self.assertIs(self.holds(chain, meeting[2], turn, bound), False)
                self.assertIs(self.holds(chain, meeting[2], turn, bound, [meeting]), True)
        self.assertIs(self.holds((0, ((0, 0, 1),)), 1, 0, 7, []), False)
        self.assertIs(self.holds((0, ()), 0, 0, 0, []), True)

    def test_meetings_stand_in_the_order_of_the_hearings(self):
        chain = (0, ((0, 0, 1), (0, 1, 2), (0, 2, 3)))
        for hearings, holds in (
                ([(0, 0, 1), (0, 1, 2), (0, 2, 3)], True), ([(0, 1, 2), (0, 0, 1), (0, 2, 3)], False),
                ([(0, 0, 1), (0, 2, 3), (0, 1, 2)], False), ([(0, 2, 3), (0, 1, 2), (0, 0, 1)], False),
                ([(0, 1, 2), (0, 0, 1), (0, 1, 2), (0, 2, 3)], True),
                ([(0, 0, 1), (0, 0, 1), (0, 3, 2), (0, 1, 2), (0, 2, 1), (0, 2, 3), (0, 2, 1)], True)):
            self.assertIs(self.holds(chain, 3, 0, 21, hearings), holds)

    def test_one_hearing_is_not_two_meetings(self):
        chain = (1, ((0, 1, 2), (0, 2, 1), (0, 1, 2)))
        bound = bound_of(self.terms, chain, 0)
        self.assertIs(self.holds(chain, 2, 0, bound, [(0, 1, 2), (0, 2, 1)]), False)
        self.assertIs(self.holds(chain, 2, 0, bound, [(0, 1, 2), (0, 2, 1), (0, 1, 2)]), True)

    def test_each_speaker_is_the_hearer_ahead(self):
        hearings = [(0, 0, 1), (0, 2, 3), (0, 3, 2)]
        for chain, place in (((0, ((0, 0, 1), (0, 2, 3))), 3), ((1, ((0, 0, 1),)), 1), ((0, ((0, 2, 3),)), 3),
                             ((0, ((0, 0, 1), (0, 3, 2))), 2)):
            self.assertIs(self.holds(chain, place, 0, bound_of(self.terms, chain, 0), hearings), False)

    def test_no_hearer_is_the_root(self):
        chain = (1, ((1, 1, 0),))
        self.assertIs(self.holds(chain, 0, 1, bound_of(self.terms, chain, 1)), False)
        self.assertIs(self.holds(chain, 0, 1, 0), False)
        chain = (1, ((1, 1, 0), (1, 0, 1)))
        bound = bound_of(self.terms, chain, 1)
        self.assertIs(self.holds(chain, 1, 1, bound, [(1, 1, 0), (1, 0, 1)]), False)

    def test_places_are_of_the_terms(self):
        hearings = [(0, 0, 4), (0, 4, 1), (0, 9, 1)]
        for chain, place in (((0, ((0, 0, 4),)), 4), ((0, ((0, 0, 4), (0, 4, 1))), 1)):
            self.assertIs(self.holds(chain, place, 0, bound_of(self.terms, chain, 0), hearings), False)
        for chain, place in (((4, ()), 4), ((9, ((0, 9, 1),)), 1), ((4, ((0, 4, 1),)), 1)):
            for bound in (0, 7, 14):
                self.assertIs(self.holds(chain, place, 0, bound, hearings), False)

    def test_of_classes_beneath(self):
        for number in (Whole, Sly):
            hearings = Row([Pair((number(0), number(0), number(1))), (number(1), 1, number(2))])
            chain = Pair((number(0), Pair((Pair((number(0), number(0), number(1))), (number(1), number(1), number(2))))))
            self.assertIs(self.holds(chain, number(2), number(3), number(23), hearings), True)
            self.assertIs(self.holds(chain, number(1), number(3), number(23), hearings), False)
            self.assertIs(self.holds(chain, number(2), number(4), number(23), hearings), False)
            self.assertIs(self.holds(chain, number(2), number(3), number(22), hearings), False)
            self.assertIs(self.holds(chain, number(2), number(3), number(23), hearings[:1]), False)
            wrong = Pair((number(1), chain[1]))
            self.assertIs(self.holds(wrong, number(2), number(3), number(23), hearings), False)

    def test_each_thing_of_right_ones_put_otherwise(self):
        for seed in range(12):
            for field in played(seed, 12):
                pass
            for place, clock in enumerate(field.clocks):
                origin, meetings = clock.chain()
                turn, bound = field.last(place), clock.bound()

                def holds(chain, at=place, by=turn, reach=bound):
                    return chain_holds(field.terms, field.hearings, chain, at, by, reach)

                self.assertIs(holds((origin, meetings)), True)
                self.assertIs(holds((origin, meetings), reach=bound + 1), False)
                self.assertIs(holds((origin, meetings), reach=bound - 1), False)
                self.assertIs(holds((origin, meetings), at=place + 1), False)
                self.assertIs(holds((origin + 1, meetings)), False)
                self.assertIs(holds((origin, meetings + ((turn, place, place),))), False)
                self.assertIs(holds((origin, meetings + ((turn, place, 0),))), False)
                for at, (met, speaker, hearer) in enumerate(meetings):
                    for wrong in ((met + 100, speaker, hearer), (met, hearer, speaker), (met, speaker, 0),
                                  (met, speaker, speaker), None):
                        self.assertIs(holds((origin, meetings[:at] + (wrong,) + meetings[at + 1:])), False)
                    self.assertIs(holds((origin, meetings[:at] + meetings[at + 1:])), False)
                    self.assertIs(holds((origin, meetings[:at + 1] + meetings[at:])), False)

    def test_the_same_is_told_again_and_nothing_is_changed(self):
        chain = (0, ((0, 0, 1), (0, 1, 2)))
        hearings = list(self.hearings)
        self.assertEqual([self.holds(chain, 2, 3, 23) for _ in range(3)], [True] * 3)
        self.assertEqual(self.hearings, hearings)


if __name__ == "__main__":
    unittest.main()
