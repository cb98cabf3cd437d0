"""Point 44: whether the bound of loss is held."""

import random
import unittest
from itertools import product

from fields import row_terms, terms_with
from listenfield.watch import bound_held
from things import Pair, Row, Whole, ring_pairs, row_pairs


def in_time(many, turns):
    """All places in time in all turns."""
    return [(turn, place) for turn in range(turns) for place in range(many)]


def heard(terms, turns):
    """All neighbours hear each other on time in all turns."""
    return [(turn, speaker, hearer, turn) for turn in range(turns) for speaker in range(terms.many())
            for hearer in terms.web.neighbours(speaker)]


class BoundHeld(unittest.TestCase):

    def test_where_all_is_heard(self):
        for quiet in (1, 2, 5):
            terms = row_terms(3, quiet=quiet)
            self.assertIs(bound_held(terms, [0, 1, 2], in_time(3, 9), heard(terms, 9), 0, 8), True)

    def test_quiet_turns_without_a_hearing(self):
        for quiet, gone in product((1, 2, 3), (1, 2, 3, 4)):
            terms = row_terms(3, quiet=quiet)
            for begin in range(0, 9 - gone):
                rows = [row for row in heard(terms, 9)
                        if row[1:3] != (2, 1) or not begin <= row[0] < begin + gone]
                self.assertIs(bound_held(terms, [0, 1, 2], in_time(3, 9), rows, 0, 8), gone < quiet)

    def test_each_of_two_neighbours_hears_the_other_one(self):
        terms = row_terms(3, quiet=2)
        for pair in ((0, 1), (1, 0), (1, 2), (2, 1)):
            rows = [row for row in heard(terms, 9) if row[1:3] != pair]
            self.assertIs(bound_held(terms, [0, 1, 2], in_time(3, 9), rows, 0, 8), False)

    def test_only_the_turns_from_first_to_last_count(self):
        terms = row_terms(2, quiet=3)
        rows = [row for row in heard(terms, 12) if row[1:3] != (0, 1) or not 4 <= row[0] <= 7]
        for first, last in product(range(12), repeat=2):
            if first <= last:
                told = len(range(max(first, 4), min(last, 7) + 1)) < 3
                self.assertIs(bound_held(terms, [0, 1], in_time(2, 12), rows, first, last), told, (first, last))

    def test_fewer_than_quiet_turns(self):
        terms = row_terms(2, quiet=4)
        for first, last in ((3, 3), (3, 6), (0, 2), (5, 8)):
            self.assertIs(bound_held(terms, [0, 1], in_time(2, 9), [], first, last), last - first < 3)

    def test_turns_in_which_one_is_not_in_time_ask_nothing(self):
        terms = row_terms(2, quiet=3)
        rows = [row for row in heard(terms, 12) if row[1:3] != (0, 1)]
        for missing in ({2, 5, 8, 11}, {0, 3, 6, 9}, {2, 4, 6, 8, 10}):
            timely = [row for row in in_time(2, 12) if row[1] != 0 or row[0] not in missing]
            self.assertIs(bound_held(terms, [0, 1], timely, rows, 0, 11), True)
            more = timely + [(4, 0), (5, 0), (6, 0)]
            self.assertIs(bound_held(terms, [0, 1], more, rows, 0, 11), False)
        # The hearer's own time is not asked.
        timely = [row for row in in_time(2, 12) if row[1] != 1]
        self.assertIs(bound_held(terms, [0, 1], timely, rows, 0, 11), False)

    def test_only_living_ones_are_asked(self):
        terms = row_terms(4, quiet=2)
        rows = [row for row in heard(terms, 9) if 3 not in row[1:3]]
        self.assertIs(bound_held(terms, [0, 1, 2], in_time(4, 9), rows, 0, 8), True)
        self.assertIs(bound_held(terms, [0, 1, 2, 3], in_time(4, 9), rows, 0, 8), False)
        self.assertIs(bound_held(terms, [0, 2], in_time(4, 9), [], 0, 8), True)

    def test_those_who_are_no_neighbours_are_not_asked(self):
        terms = terms_with([(0, 1)], 3, quiet=1)
        self.assertIs(bound_held(terms, [0, 1, 2], in_time(3, 5), heard(terms, 5), 0, 4), True)

    def test_late_hearings_do_not_count(self):
        terms = row_terms(2, quiet=2)
        rows = [row for row in heard(terms, 8) if row[1:3] != (1, 0)]
        late = [(turn + 1, 1, 0, turn) for turn in range(7)]
        self.assertIs(bound_held(terms, [0, 1], in_time(2, 8), rows + late, 0, 7), False)
        on_time = [(turn, 1, 0, turn) for turn in (1, 3, 5, 7)]
        self.assertIs(bound_held(terms, [0, 1], in_time(2, 8), rows + late + on_time, 0, 7), True)

    def test_far_turns(self):
        terms = row_terms(2, quiet=2)
        self.assertIs(bound_held(terms, [0, 1], [], [], 10 ** 6 - 3, 10 ** 6), True)

    def test_of_classes_beneath(self):
        terms = row_terms(2, quiet=2)
        timely = Row(Pair(map(Whole, row)) for row in in_time(2, 6))
        for gone, told in (((), True), ((2,), True), ((2, 3), False)):
            rows = Row(Pair(map(Whole, row)) for row in heard(terms, 6) if row[1] or row[0] not in gone)
            self.assertIs(bound_held(terms, Row([Whole(0), Whole(1)]), timely, rows, Whole(0), Whole(5)), told)

    def test_nothing_is_changed(self):
        terms = row_terms(3)
        living, timely, rows = [0, 1, 2], in_time(3, 4), heard(terms, 4)
        kept = (list(living), list(timely), list(rows))
        bound_held(terms, living, timely, rows, 0, 3)
        self.assertEqual((living, timely, rows), kept)

    def test_by_the_words(self):
        rng = random.Random(44)
        seen = []
        for _ in range(300):
            many, quiet, turns = rng.randint(2, 4), rng.randint(1, 4), rng.randint(1, 9)
            terms = terms_with(rng.choice((row_pairs, ring_pairs))(many), many, quiet=quiet)
            living = [0] + [at for at in range(1, many) if rng.random() < 0.8]
            often, clear = rng.choice((0.6, 0.95)), rng.choice((0.5, 0.9, 0.98))
            timely = [row for row in in_time(many, turns) if rng.random() < often]
            rows = [row for row in heard(terms, turns) if rng.random() < clear]
            first = rng.randrange(turns)
            last = rng.randrange(first, turns)
            told = all(
                any((turn, a, b, turn) in rows for turn in range(begin, begin + quiet))
                for a in living for b in terms.web.neighbours(a) if b in living
                for begin in range(first, last - quiet + 2)
                if all((turn, a) in timely for turn in range(begin, begin + quiet)))
            seen.append(told)
            self.assertIs(bound_held(terms, living, timely, rows, first, last), told)
        self.assertGreater(min(seen.count(True), seen.count(False)), 30)


if __name__ == "__main__":
    unittest.main()
