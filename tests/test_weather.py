"""Point 17, and points 2 to 4 of it: weathers, and whether they fit terms."""

import unittest

from listenfield.errors import FieldError, Wrong
from listenfield.terms import Terms
from listenfield.weather import Weather, fits
from listenfield.webs import Web
from things import Like, Other, Pair, Row, Sly, Whole, all_pairs, is_own, row_pairs, star_pairs, strange_things

NAMES = ["dead", "senses", "lost", "late", "doubled", "jitters"]
LARGEST = 10 ** 9
# Of each list one thing that may stand in it.
ROWS = {"dead": 1, "senses": (1, 2, -3), "lost": (1, 0), "late": (1, 0, 3), "doubled": (0, 1, 4), "jitters": (1, 0, -2)}
# Of each list what the least and the greatest number is at each place of a thing in it.
BOUNDS = {
    "senses": [(0, 9), (0, 9), (-LARGEST, LARGEST)],
    "lost": [(0, 9), (0, 9)],
    "late": [(0, 9), (0, 9), (1, 50)],
    "doubled": [(0, 9), (0, 9), (1, 50)],
    "jitters": [(0, 9), (0, 9), (-LARGEST, LARGEST)],
}


def fields(weather):
    """All fields of a weather, by their names."""
    return {name: getattr(weather, name) for name in NAMES}


def terms_of(web, jitter=0):
    """Terms of a web, with a jitter."""
    places = [(0, 0, 0, 0, "w")] * (web.many() - 1)
    return Terms(web, places, jitter=jitter, guard=web.many() * jitter)


class Checked(unittest.TestCase):

    def refused(self, at, **named):
        with self.assertRaises(Wrong) as caught:
            Weather(**named)
        self.assertEqual(caught.exception.at, at, named)


class Made(Checked):

    def test_nothing_handed_in(self):
        self.assertEqual(fields(Weather()), {name: [] for name in NAMES})
        self.assertEqual(fields(Weather(**{name: None for name in NAMES})), {name: [] for name in NAMES})
        self.assertEqual(fields(Weather(**{name: [] for name in NAMES})), {name: [] for name in NAMES})

    def test_each_list_under_its_own_name(self):
        for name in NAMES:
            told = fields(Weather(**{name: [ROWS[name]]}))
            self.assertEqual(told, {other: [ROWS[name]] if other == name else [] for other in NAMES})

    def test_all_lists_together(self):
        self.assertEqual(fields(Weather(**{name: [ROWS[name]] for name in NAMES})), {n: [ROWS[n]] for n in NAMES})

    def test_things_stand_as_they_were_handed_in(self):
        lists = {"dead": [3, 1, 3, 0, 9], "senses": [(9, 9, LARGEST), (0, 0, -LARGEST), (0, 0, 5), (0, 0, 5)],
                 "lost": [(9, 0), (0, 9), (0, 9), (4, 4)], "late": [(1, 0, 50), (0, 1, 1), (1, 0, 50)],
                 "doubled": [(2, 1, 7), (1, 2, 50), (2, 1, 1)],
                 "jitters": [(3, 2, LARGEST), (2, 3, -LARGEST), (3, 2, 0)]}
        self.assertEqual(fields(Weather(**lists)), lists)

    def test_lists_handed_in_stay(self):
        lists = {name: [ROWS[name], ROWS[name]] for name in NAMES}
        weather = Weather(**lists)
        fits(weather, terms_of(Web(2, [(0, 1)])))
        self.assertEqual(lists, {name: [ROWS[name], ROWS[name]] for name in NAMES})

    def test_lists_changed_behind_the_call_change_nothing(self):
        lists = {name: [ROWS[name]] for name in NAMES}
        weather = Weather(**lists)
        for name in NAMES:
            lists[name].append(ROWS[name])
            lists[name][0] = None
        self.assertEqual(fields(weather), {name: [ROWS[name]] for name in NAMES})

    def test_two_weathers_share_no_list(self):
        one, other = Weather(), Weather()
        for name in NAMES:
            getattr(one, name).append("more")
        self.assertEqual(fields(other), {name: [] for name in NAMES})
        self.assertEqual(fields(Weather()), {name: [] for name in NAMES})
        shared = {name: [ROWS[name]] for name in NAMES}
        one, other = Weather(**shared), Weather(**shared)
        for name in NAMES:
            getattr(one, name).clear()
        self.assertEqual(fields(other), shared)

    def test_handed_in_by_names_alone(self):
        with self.assertRaises(TypeError):
            Weather([1])

    def test_told_in_pythons_own_kinds(self):
        for number in (Whole, Sly):
            lists = {"dead": Row([number(1)])}
            for name in NAMES[1:]:
                lists[name] = Row([Pair(number(part) for part in ROWS[name])])
            told = fields(Weather(**lists))
            self.assertEqual(told, {name: [ROWS[name]] for name in NAMES})
            for name in NAMES:
                self.assertTrue(is_own(told[name]), name)


class Refused(Checked):

    def test_each_is_a_list(self):
        for at, name in enumerate(NAMES):
            for thing in strange_things() + [(ROWS[name],), {ROWS[name]}, {ROWS[name]: 1}, iter([ROWS[name]]), 1,
                                             ROWS[name]]:
                if thing is None or isinstance(thing, list) and thing in ([], [0] if name == "dead" else []):
                    continue
                self.refused(at, **{name: thing})

    def test_the_dead_are_places(self):
        for place in range(10):
            self.assertEqual(Weather(dead=[place]).dead, [place])
        for thing in strange_things() + [-1, 10, 10 ** 30, (1,), Sly(10), Sly(-1)]:
            for dead in ([thing], [1, thing], [thing, 1]):
                self.refused(0, dead=dead)

    def test_things_are_tuples_of_as_many_parts(self):
        for at, name in enumerate(NAMES):
            if name == "dead":
                continue
            row = ROWS[name]
            for thing in strange_things() + [list(row), row[:-1], row[1:], row + (0,), (), 1, "10", iter(row), {1: 0}]:
                if isinstance(thing, tuple) and len(thing) == len(row) and name != "lost":
                    continue
                for rows in ([thing], [row, thing], [thing, row]):
                    self.refused(at, **{name: rows})

    def test_each_part_has_its_bounds(self):
        for name, bounds in BOUNDS.items():
            at, row = NAMES.index(name), ROWS[name]
            for part, (least, most) in enumerate(bounds):
                for number in (least, least + 1, most - 1, most):
                    rows = [row[:part] + (number,) + row[part + 1:]]
                    self.assertEqual(getattr(Weather(**{name: rows}), name), rows)
                for thing in strange_things() + [least - 1, most + 1, -(10 ** 30), 10 ** 30, Sly(most + 1)]:
                    wrong = row[:part] + (thing,) + row[part + 1:]
                    self.refused(at, **{name: [wrong]})
                    self.refused(at, **{name: [row, wrong]})

    def test_the_first_wrong_list_is_told(self):
        for at, name in enumerate(NAMES):
            wrong = {other: "no" for other in NAMES[at:]}
            right = {other: [ROWS[other]] for other in NAMES[:at]}
            self.refused(at, **right, **wrong)
            self.refused(at, **wrong)
            for other in NAMES[at + 1:]:
                self.refused(at, **{other: [None], name: [None]})

    def test_refused_as_wrong_alone(self):
        for caught in (Wrong, FieldError, ValueError):
            with self.assertRaises(caught) as told:
                Weather(dead=[10])
            self.assertIs(type(told.exception), Wrong)

    def test_what_is_refused_stays_as_it_was(self):
        lists = {"dead": [1, 2], "late": [(1, 0, 51)]}
        self.refused(3, **lists)
        self.assertEqual(lists, {"dead": [1, 2], "late": [(1, 0, 51)]})

    def test_things_like_everything_are_wrong(self):
        for at, name in enumerate(NAMES):
            for thing in (Like(), Other()):
                self.refused(at, **{name: thing})
                self.refused(at, **{name: [thing]})


class Fits(unittest.TestCase):

    def setUp(self):
        self.terms = terms_of(Web(4, row_pairs(4)), jitter=5)

    def fit(self, **lists):
        told = fits(Weather(**lists), self.terms)
        self.assertIs(type(told), bool)
        return told

    def test_none_told_fits(self):
        self.assertIs(self.fit(), True)

    def test_all_lists_together_fit(self):
        self.assertIs(self.fit(
            dead=[3, 1], senses=[(0, 0, 5), (0, 1, 5), (1, 0, 5), (3, 9, -LARGEST)], lost=[(0, 1), (1, 0)],
            late=[(1, 2, 50), (3, 2, 1)], doubled=[(2, 1, 3), (2, 3, 3)],
            jitters=[(0, 1, 5), (1, 0, -5), (1, 2, 0), (2, 1, 1), (2, 3, 5), (3, 2, -5)]), True)

    def test_places_are_of_the_web(self):
        for many in (2, 4, 9):
            terms = terms_of(Web(many, row_pairs(many)))
            for place in range(1, 10):
                self.assertIs(fits(Weather(dead=[place]), terms), place < many)
                self.assertIs(fits(Weather(senses=[(place, 0, 0)]), terms), place < many)
                self.assertIs(fits(Weather(senses=[(0, 0, 0), (place, 0, 0)]), terms), place < many)
                for name, more in (("lost", ()), ("late", (1,)), ("doubled", (1,)), ("jitters", (0,))):
                    for pair in ((place - 1, place), (place, place - 1)):
                        self.assertIs(fits(Weather(**{name: [pair + more]}), terms), place < many)

    def test_the_root_does_not_die_but_senses(self):
        self.assertIs(self.fit(dead=[0]), False)
        self.assertIs(self.fit(dead=[1, 0]), False)
        self.assertIs(self.fit(dead=[1, 2]), True)
        self.assertIs(self.fit(senses=[(0, 3, 4)]), True)

    def test_none_dies_twice(self):
        self.assertIs(self.fit(dead=[1, 1]), False)
        self.assertIs(self.fit(dead=[1, 2, 3, 1]), False)
        self.assertIs(self.fit(dead=[3, 2, 1]), True)

    def test_no_place_and_sort_twice(self):
        self.assertIs(self.fit(senses=[(1, 0, 5), (1, 0, 6)]), False)
        self.assertIs(self.fit(senses=[(1, 0, 5), (2, 0, 5), (1, 0, 5)]), False)
        self.assertIs(self.fit(senses=[(1, 0, 5), (1, 1, 5), (2, 0, 5), (2, 1, 5)]), True)
        self.assertIs(self.fit(senses=[(1, 2, 5), (2, 1, 5)]), True)

    def test_pairs_are_of_neighbours(self):
        for pairs in (row_pairs(4), star_pairs(4), all_pairs(4), [], [(1, 2)]):
            terms = terms_of(Web(4, pairs))
            for one in range(4):
                for other in range(4):
                    near = (min(one, other), max(one, other)) in pairs
                    for name, more in (("lost", ()), ("late", (1,)), ("doubled", (1,)), ("jitters", (0,))):
                        self.assertIs(fits(Weather(**{name: [(one, other) + more]}), terms), near)

    def test_each_pair_is_looked_at(self):
        self.assertIs(self.fit(lost=[(0, 1), (1, 2), (0, 2)]), False)
        self.assertIs(self.fit(late=[(0, 1, 1), (0, 3, 1), (1, 2, 1)]), False)
        self.assertIs(self.fit(doubled=[(0, 0, 1), (1, 2, 1)]), False)
        self.assertIs(self.fit(jitters=[(0, 1, 1), (3, 1, 1)]), False)

    def test_no_pair_twice_in_lost_late_and_doubled_together(self):
        rows = {"lost": (1, 0), "late": (1, 0, 3), "doubled": (1, 0, 4)}
        back = {"lost": (0, 1), "late": (0, 1, 3), "doubled": (0, 1, 3)}
        for name in rows:
            self.assertIs(self.fit(**{name: [rows[name]]}), True)
            self.assertIs(self.fit(**{name: [rows[name], rows[name]]}), False)
            self.assertIs(self.fit(**{name: [rows[name], back[name]]}), True)
            for other in rows:
                if other != name:
                    self.assertIs(self.fit(**{name: [rows[name]], other: [rows[other]]}), False)
                    self.assertIs(self.fit(**{name: [rows[name]], other: [back[other]]}), True)

    def test_a_pair_late_by_two_numbers_of_turns_stands_twice(self):
        self.assertIs(self.fit(late=[(1, 0, 3), (1, 0, 4)]), False)
        self.assertIs(self.fit(doubled=[(1, 0, 3), (1, 0, 4)]), False)

    def test_no_pair_twice_in_jitters(self):
        self.assertIs(self.fit(jitters=[(1, 0, 3), (1, 0, 3)]), False)
        self.assertIs(self.fit(jitters=[(1, 0, 3), (2, 1, 1), (1, 0, -2)]), False)
        self.assertIs(self.fit(jitters=[(1, 0, 3), (0, 1, 3)]), True)

    def test_a_pair_may_stand_in_jitters_and_in_another_list(self):
        for name, row in (("lost", (1, 0)), ("late", (1, 0, 3)), ("doubled", (1, 0, 3))):
            self.assertIs(self.fit(**{name: [row], "jitters": [(1, 0, 3)]}), True)

    def test_shifts_are_no_more_than_jitter_either_way(self):
        for jitter in (0, 1, 5, 100):
            terms = terms_of(Web(2, [(0, 1)]), jitter)
            for shift in (-jitter, 0, jitter):
                self.assertIs(fits(Weather(jitters=[(0, 1, shift)]), terms), True)
            for shift in (-jitter - 1, jitter + 1, LARGEST, -LARGEST):
                self.assertIs(fits(Weather(jitters=[(0, 1, shift)]), terms), False)
                self.assertIs(fits(Weather(jitters=[(1, 0, 0), (0, 1, shift)]), terms), False)

    def test_readings_and_later_turns_may_be_greater_than_jitter(self):
        self.assertIs(self.fit(senses=[(1, 0, LARGEST)], late=[(1, 0, 50)], doubled=[(0, 1, 50)]), True)

    def test_of_numbers_of_classes_beneath(self):
        self.assertIs(self.fit(dead=[Sly(0)]), False)
        self.assertIs(self.fit(dead=[Sly(1), Sly(1)]), False)
        self.assertIs(self.fit(dead=[Sly(1), Sly(2)]), True)
        self.assertIs(self.fit(lost=[(Sly(1), Sly(0)), (Sly(0), Sly(1))]), True)
        self.assertIs(self.fit(lost=[(Sly(0), Sly(2))]), False)
        self.assertIs(self.fit(jitters=[(1, 0, Sly(6))]), False)

    def test_the_same_is_told_again_and_nothing_is_changed(self):
        weather = Weather(dead=[3, 1], lost=[(1, 0)], jitters=[(1, 0, 6)])
        self.assertEqual([fits(weather, self.terms) for _ in range(3)], [False] * 3)
        self.assertEqual(fields(weather), {"dead": [3, 1], "senses": [], "lost": [(1, 0)], "late": [], "doubled": [],
                                           "jitters": [(1, 0, 6)]})


if __name__ == "__main__":
    unittest.main()
