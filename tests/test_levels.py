"""Points 25 and 26, and points 3, 6, 8 and 11 of them: levels, alone and by hearsay."""

import random
import unittest
from itertools import permutations

from listenfield.levels import Levels
from listenfield.webs import Web
from things import Sly, Whole, all_pairs, is_own, ring_pairs, row_pairs, star_pairs


def state(levels):
    """All that levels tell."""
    return levels.level(), levels.head()


class Alone(unittest.TestCase):

    def test_ahead_of_the_first_slot(self):
        for many in (2, 5, 10):
            for place in range(1, many):
                levels = Levels(place, many)
                self.assertEqual(state(levels), (many, None))
                self.assertIsNone(levels.hears(0, 0, 3))
                self.assertEqual(state(levels), (many, None))

    def test_where_nothing_was_heard(self):
        levels = Levels(3, 5)
        for turn in range(5):
            self.assertEqual(levels.at_slot(turn, 1), [])
            self.assertEqual(state(levels), (5, None))

    def test_one_more_than_the_least_kept(self):
        levels = Levels(3, 9)
        levels.hears(4, 5, 0)
        self.assertEqual((levels.at_slot(0, 2), state(levels)), ([], (6, 4)))
        levels.hears(5, 2, 0)
        self.assertEqual((levels.at_slot(1, 2), state(levels)), ([], (3, 5)))
        levels.hears(1, 4, 1)
        self.assertEqual((levels.at_slot(2, 2), state(levels)), ([], (3, 5)))

    def test_of_the_least_the_least_neighbour(self):
        for order in permutations([(7, 2), (4, 2), (6, 1), (5, 1), (1, 3)]):
            levels = Levels(3, 9)
            for neighbour, level in order:
                levels.hears(neighbour, level, 0)
            levels.at_slot(0, 1)
            self.assertEqual(state(levels), (2, 5))

    def test_between_slots_both_stay(self):
        levels = Levels(3, 9)
        levels.hears(4, 5, 0)
        levels.at_slot(0, 1)
        for neighbour, level in ((2, 0), (4, 1), (5, 2)):
            levels.hears(neighbour, level, 1)
            self.assertEqual(state(levels), (6, 4))
        levels.at_slot(1, 1)
        self.assertEqual(state(levels), (1, 2))

    def test_cut_off_from_as_many_on(self):
        for level, told in ((0, (1, 2)), (2, (3, 2)), (3, (4, None)), (4, (4, None)), (5, (4, None))):
            levels = Levels(3, 4)
            levels.hears(2, level, 0)
            self.assertEqual((levels.at_slot(0, 1), state(levels)), ([], told))

    def test_cut_off_by_all_but_one(self):
        levels = Levels(3, 4)
        for neighbour, level in ((0, 4), (1, 3), (2, 2)):
            levels.hears(neighbour, level, 0)
        levels.at_slot(0, 1)
        self.assertEqual(state(levels), (3, 2))

    def test_forgotten_after_more_than_quiet_turns(self):
        for quiet in (1, 2, 5, 20):
            levels = Levels(3, 9)
            levels.hears(4, 2, 7)
            for turn in range(7, 8 + quiet):
                self.assertEqual((levels.at_slot(turn, quiet), state(levels)), ([], (3, 4)))
            for turn in range(8 + quiet, 20 + quiet):
                self.assertEqual((levels.at_slot(turn, quiet), state(levels)), ([4], (9, None)))

    def test_forgotten_one_by_one(self):
        levels = Levels(3, 9)
        for neighbour, level, turn in ((8, 1, 0), (5, 2, 1), (7, 3, 2)):
            levels.hears(neighbour, level, turn)
        told = [(levels.at_slot(turn, 2), *state(levels)) for turn in (2, 3, 4, 5, 6)]
        self.assertEqual(told, [([], 2, 8), ([8], 3, 5), ([5, 8], 4, 7), ([5, 7, 8], 9, None), ([5, 7, 8], 9, None)])

    def test_heard_again_it_is_kept_again(self):
        levels = Levels(3, 9)
        levels.hears(4, 2, 0)
        levels.hears(5, 2, 0)
        self.assertEqual(levels.at_slot(9, 1), [4, 5])
        levels.hears(5, 3, 9)
        self.assertEqual((levels.at_slot(10, 1), state(levels)), ([4], (4, 5)))
        levels.hears(4, 1, 10)
        self.assertEqual((levels.at_slot(11, 1), state(levels)), ([5], (2, 4)))

    def test_slots_that_are_left_out(self):
        levels = Levels(3, 9)
        levels.hears(4, 2, 3)
        self.assertEqual((levels.at_slot(1000, 20), state(levels)), ([4], (9, None)))

    def test_elder_ones_count_for_nothing(self):
        levels = Levels(3, 9)
        levels.hears(4, 5, 6)
        for level, turn in ((1, 5), (0, 6), (2, 0)):
            levels.hears(4, level, turn)
        levels.at_slot(6, 3)
        self.assertEqual(state(levels), (6, 4))
        levels.hears(4, 7, 7)
        levels.at_slot(7, 3)
        self.assertEqual(state(levels), (8, 4))

    def test_elder_ones_than_a_forgotten_one_count_for_nothing(self):
        levels = Levels(3, 9)
        levels.hears(4, 5, 6)
        self.assertEqual(levels.at_slot(8, 1), [4])
        for turn in (0, 5, 6):
            levels.hears(4, 1, turn)
            self.assertEqual((levels.at_slot(7, 20), state(levels)), ([4], (9, None)))
        levels.hears(4, 1, 7)
        self.assertEqual((levels.at_slot(9, 2), state(levels)), ([], (2, 4)))

    def test_of_other_neighbours_elder_ones_count(self):
        levels = Levels(3, 9)
        levels.hears(4, 5, 6)
        levels.hears(5, 1, 2)
        self.assertEqual((levels.at_slot(6, 4), state(levels)), ([], (2, 5)))
        self.assertEqual((levels.at_slot(7, 4), state(levels)), ([5], (6, 4)))

    def test_a_late_one_may_be_forgotten_at_once(self):
        levels = Levels(3, 9)
        levels.hears(4, 1, 2)
        self.assertEqual((levels.at_slot(30, 3), state(levels)), ([4], (9, None)))

    def test_heard_twice_it_is_as_once(self):
        for turn in (3, 4):
            once, twice = Levels(3, 9), Levels(3, 9)
            for levels, times in ((once, 1), (twice, 3)):
                levels.hears(5, 3, 3)
                for _ in range(times):
                    levels.hears(4, 2, turn)
            for at in range(4, 9):
                self.assertEqual((once.at_slot(at, 2), state(once)), (twice.at_slot(at, 2), state(twice)))

    def test_the_order_between_slots_changes_nothing(self):
        heard = [(4, 3, 5), (4, 1, 4), (5, 3, 5), (2, 6, 3), (2, 2, 1)]
        told = set()
        for order in permutations(heard):
            levels = Levels(3, 9)
            levels.hears(2, 0, 0)
            levels.at_slot(0, 4)
            for hearing in order:
                levels.hears(*hearing)
            told.add((tuple((tuple(levels.at_slot(turn, 2)), *state(levels)) for turn in (5, 6, 7, 8))))
        self.assertEqual(told, {(((), 4, 4), ((2,), 4, 4), ((2,), 4, 4), ((2, 4, 5), 9, None))})


class Root(unittest.TestCase):

    def test_level_nought_and_no_head(self):
        root = Levels(0, 5)
        self.assertEqual(state(root), (0, None))
        root.hears(1, 0, 0)
        root.hears(2, 4, 0)
        for turn in range(6):
            root.at_slot(turn, 2)
            self.assertEqual(state(root), (0, None))

    def test_it_forgets_as_elsewhere(self):
        root = Levels(0, 5)
        root.hears(3, 1, 0)
        root.hears(1, 1, 2)
        self.assertEqual([root.at_slot(turn, 1) for turn in range(5)], [[], [], [3], [3], [1, 3]])
        root.hears(3, 1, 4)
        self.assertEqual(root.at_slot(5, 1), [1])


class Kinds(unittest.TestCase):

    def test_each_told_list_is_a_new_one(self):
        levels = Levels(3, 9)
        levels.hears(4, 2, 0)
        told = levels.at_slot(5, 1)
        told.append(8)
        self.assertEqual(levels.at_slot(5, 1), [4])

    def test_in_pythons_own_kinds(self):
        for number in (Whole, Sly):
            levels = Levels(number(3), number(9))
            self.assertEqual((state(levels), is_own(list(state(levels)))), ((9, None), True))
            for neighbour, level, turn in ((5, 3, 1), (4, 2, 4), (4, 0, 3), (6, 2, 4), (2, 8, 0)):
                levels.hears(number(neighbour), number(level), number(turn))
            told = levels.at_slot(number(4), number(2))
            self.assertEqual((told, state(levels)), ([2, 5], (3, 4)))
            self.assertTrue(is_own([told, *state(levels)]))
        self.assertEqual(state(Levels(Sly(0), Sly(4))), (0, None))


class Copied(unittest.TestCase):

    def made(self):
        levels = Levels(3, 9)
        levels.hears(5, 3, 1)
        levels.hears(6, 1, 0)
        levels.at_slot(3, 2)
        levels.hears(4, 1, 3)
        return levels

    def test_it_is_alike(self):
        levels = self.made()
        self.assertEqual(state(levels.copied()), (4, 5))
        for quiet in (1, 2, 3):
            for turn in (4, 5, 6):
                elder, twin = levels.copied(), levels.copied().copied()
                self.assertEqual(twin.at_slot(turn, quiet), elder.at_slot(turn, quiet))
                self.assertEqual(state(twin), state(elder))
        self.assertEqual(state(Levels(0, 4).copied()), (0, None))

    def test_each_goes_on_by_itself(self):
        levels = self.made()
        twin = levels.copied()
        twin.hears(2, 0, 4)
        twin.hears(5, 8, 4)
        self.assertEqual((twin.at_slot(4, 2), state(twin)), ([6], (1, 2)))
        self.assertEqual(state(levels), (4, 5))
        self.assertEqual((levels.at_slot(4, 3), state(levels)), ([6], (2, 4)))
        levels.hears(7, 0, 4)
        self.assertEqual((twin.at_slot(7, 9), state(twin)), ([6], (1, 2)))

    def test_two_by_turns_know_nothing_of_each_other(self):
        one, other = Levels(1, 9), Levels(1, 9)
        for turn in range(6):
            one.hears(2, 3, turn)
            other.hears(4, 5, turn)
            self.assertEqual((one.at_slot(turn, 1), state(one)), ([], (4, 2)))
            self.assertEqual((other.at_slot(turn, 1), state(other)), ([], (6, 4)))


class Field:
    """Levels of all places of a web, that hear each other by a seed."""

    def __init__(self, seed):
        self.chance = random.Random(seed)
        self.many = self.chance.randint(2, 8)
        self.web = Web(self.many, self.chance.choice([row_pairs, ring_pairs, star_pairs, all_pairs])(self.many))
        self.quiet = self.chance.randint(1, 4)
        self.levels = [Levels(place, self.many) for place in range(self.many)]
        self.living = list(range(self.many))
        self.turn = -1

    def step(self, loss):
        """Go on by a turn, in which each hearing is lost where loss tells so."""
        self.turn += 1
        slots = self.web.slots()
        for speaker in sorted(self.living, key=lambda place: (slots[place], place)):
            self.levels[speaker].at_slot(self.turn, self.quiet)
            for hearer in self.web.neighbours(speaker):
                if hearer in self.living and not loss(self.turn, speaker, hearer):
                    self.levels[hearer].hears(speaker, self.levels[speaker].level(), self.turn)
                    if self.chance.random() < 0.2:
                        self.levels[hearer].hears(speaker, self.levels[speaker].level(), self.turn)

    def scarce(self):
        """A loss by which each hears each other one just once in quiet turns, from now on."""
        start, heard_at = self.turn, {}

        def loss(turn, speaker, hearer):
            if turn - heard_at.get((speaker, hearer), start) < self.quiet and self.chance.random() < 0.9:
                return True
            heard_at[speaker, hearer] = turn
            return False

        return loss


class Hearsay(unittest.TestCase):

    def check_roads(self, field):
        """All with a living road have its length for their level, and heads lead along it."""
        far = field.web.distances(field.living)
        for place in field.living:
            if far[place] is not None:
                level, head = state(field.levels[place])
                self.assertEqual(level, far[place])
                if place:
                    self.assertEqual(far[head], level - 1)
                    self.assertIn(head, field.web.neighbours(place))

    def check_cut(self, field):
        """All without a living road are cut off."""
        for place in field.web.cut(field.living):
            self.assertEqual(state(field.levels[place]), (field.many, None))

    def test_without_loss(self):
        for seed in range(40):
            field = Field(seed)
            for _ in range(field.many + 1):
                field.step(lambda *hearing: False)
            self.check_roads(field)

    def test_places_that_die_one_by_one(self):
        for seed in range(60):
            field = Field(seed)
            for _ in range(field.chance.randint(0, 8)):
                field.step(lambda *hearing: field.chance.random() < 0.5)
            while len(field.living) > 1:
                loss, start = field.scarce(), field.turn + 1
                for _ in range((field.many + 1) * (field.quiet + 1) + 3):
                    field.step(loss)
                    if field.turn >= start + field.many * (field.quiet + 1):
                        self.check_cut(field)
                    if field.turn >= start + (field.many + 1) * (field.quiet + 1):
                        self.check_roads(field)
                field.living.remove(field.chance.choice(field.living[1:]))

    def test_a_root_that_is_not_heard(self):
        for seed in range(40):
            field = Field(seed)
            for _ in range(10):
                field.step(lambda *hearing: False)
            start = field.turn + 1
            for _ in range((field.many + 1) * (field.quiet + 1)):
                field.step(lambda turn, speaker, hearer: speaker == 0)
                if field.turn >= start + field.many * (field.quiet + 1):
                    for place in range(1, field.many):
                        self.assertEqual(state(field.levels[place]), (field.many, None))
            self.assertEqual(state(field.levels[0]), (0, None))

    def test_a_death_is_led_around(self):
        field = Field(0)
        field.web, field.many, field.quiet = Web(6, ring_pairs(6)), 6, 2
        field.levels, field.living = [Levels(place, 6) for place in range(6)], list(range(6))
        for _ in range(8):
            field.step(lambda *hearing: False)
        self.assertEqual([state(levels) for levels in field.levels], [(0, None), (1, 0), (2, 1), (3, 2), (2, 5), (1, 0)])
        field.living.remove(1)
        for _ in range(21):
            field.step(lambda *hearing: False)
        self.assertEqual([state(field.levels[place]) for place in field.living],
                         [(0, None), (4, 3), (3, 4), (2, 5), (1, 0)])


if __name__ == "__main__":
    unittest.main()
