"""Point 16, and points 3 and 4 of it: terms, and in which order they are refused."""

import unittest

from listenfield.errors import FieldError, Loose, Narrow, Wrong
from listenfield.terms import Terms
from listenfield.webs import Web
from things import (Other, Pair, Row, Sly, SlyText, Text, Whole, all_pairs, is_own, ring_pairs, row_pairs, shapes,
                    star_pairs, strange_things)

LARGEST = 10 ** 9
NUMBERS = ["quiet", "drift", "jitter", "guard", "listen", "speak", "item"]
PLAIN = (0, 0, 0, 0, "w")
STRANGE_NUMBERS = strange_things() + [-1, LARGEST + 1, 10 ** 30, Sly(-1)]


class Checked(unittest.TestCase):

    def refused(self, at, *things, **named):
        with self.assertRaises(Wrong) as caught:
            Terms(*things, **named)
        self.assertEqual(caught.exception.at, at, (things, named))

    def refused_as(self, refusal, *things, **named):
        with self.assertRaises(refusal):
            Terms(*things, **named)


class Made(Checked):

    def test_tells_what_it_is_made_of(self):
        web = Web(3, row_pairs(3))
        places = [(-2, 5, 9, 100, "ws"), (3, -7, 7, LARGEST, "w" * 8)]
        terms = Terms(web, places, quiet=4, drift=3, jitter=2, guard=100000, listen=6, speak=7, item=8)
        self.assertIs(terms.web, web)
        self.assertEqual([terms.quiet, terms.drift, terms.jitter, terms.guard], [4, 3, 2, 100000])
        self.assertEqual([terms.listen, terms.speak, terms.item], [6, 7, 8])
        self.assertEqual([terms.place(1), terms.place(2)], places)
        self.assertEqual([terms.many(), terms.slots_many(), terms.width()], [3, 3, 333333])

    def test_numbers_left_out(self):
        terms = Terms(Web(2, []), [PLAIN])
        self.assertEqual([getattr(terms, name) for name in NUMBERS], [1, 0, 0, 0, 0, 0, 0])

    def test_each_number_is_kept_under_its_own_name(self):
        for name in NUMBERS:
            named = {"guard": 1000, name: 7}
            terms = Terms(Web(2, []), [PLAIN], **named)
            for other in NUMBERS:
                self.assertEqual(getattr(terms, other), named.get(other, {"quiet": 1}.get(other, 0)), (name, other))

    def test_behind_the_star_things_have_names(self):
        with self.assertRaises(TypeError):
            Terms(Web(2, []), [PLAIN], 1)

    def test_slots_and_widths(self):
        for pairs, many, slots, width in (
                ([], 10, 1, 1000000), ([(0, 1)], 2, 2, 500000), (row_pairs(10), 10, 3, 333333),
                (ring_pairs(5), 5, 5, 200000), (star_pairs(7), 7, 7, 142857), (all_pairs(10), 10, 10, 100000),
                (star_pairs(6), 6, 6, 166666), (all_pairs(8), 8, 8, 125000), (all_pairs(9), 9, 9, 111111)):
            terms = Terms(Web(many, pairs), [PLAIN] * (many - 1))
            self.assertEqual((terms.many(), terms.slots_many(), terms.width()), (many, slots, width))

    def test_as_many_slots_as_the_webs_need(self):
        for many in range(2, 11):
            for pairs in shapes(many):
                terms = Terms(Web(many, pairs), [PLAIN] * (many - 1))
                self.assertEqual(terms.slots_many(), max(terms.web.slots()) + 1)
                self.assertEqual(terms.width(), 10 ** 6 // terms.slots_many())


class WebsAndNumbers(Checked):

    def test_the_web_is_a_web(self):
        for thing in strange_things() + [2, 3, [(0, 1)], Web, (2, [])]:
            self.refused(0, thing, [PLAIN])

    def test_quiet_is_from_1_to_20(self):
        for quiet in (1, 2, 19, 20):
            self.assertEqual(Terms(Web(2, []), [PLAIN], quiet=quiet).quiet, quiet)
        for thing in STRANGE_NUMBERS + [0, 21, 10 ** 6, Sly(0), Sly(21)]:
            self.refused(2, Web(2, []), [PLAIN], quiet=thing)

    def test_costs_are_sizes(self):
        for name in ("listen", "speak", "item"):
            for size in (0, 1, LARGEST - 1, LARGEST):
                self.assertEqual(getattr(Terms(Web(2, []), [PLAIN], **{name: size}), name), size)

    def test_other_things_are_no_sizes(self):
        for at, name in enumerate(NUMBERS):
            for thing in STRANGE_NUMBERS:
                self.refused(2 + at, Web(2, []), [PLAIN], **{name: thing})

    def test_the_first_wrong_thing_is_told(self):
        web = Web(2, [])
        self.refused(0, None, None, **{name: None for name in NUMBERS})
        self.refused(1, web, None, **{name: None for name in NUMBERS})
        for at in range(len(NUMBERS)):
            self.refused(2 + at, web, [PLAIN], **{name: None for name in reversed(NUMBERS[at:])})

    def test_wrong_one_by_one_among_others(self):
        web = Web(2, [])
        for at, name in enumerate(NUMBERS):
            for other in NUMBERS[at + 1:]:
                self.refused(2 + at, web, [PLAIN], **{other: "no", name: "no"})


class Places(Checked):

    def test_one_tuple_for_each_place_but_the_root(self):
        web = Web(3, [])
        self.assertEqual(Terms(web, [PLAIN, (0, 0, 1, 2, "s")]).place(2), (0, 0, 1, 2, "s"))
        for many in (0, 1, 3, 10):
            self.refused(1, web, [PLAIN] * many)

    def test_they_stand_in_a_list(self):
        for thing in strange_things() + [(PLAIN,), {PLAIN}, {PLAIN: 1}, iter([PLAIN]), PLAIN, "w"]:
            self.refused(1, Web(2, []), thing)

    def test_each_is_a_tuple_of_five(self):
        for thing in strange_things() + [list(PLAIN), PLAIN[:4], PLAIN[1:], PLAIN + ("w",), "0000w", iter(PLAIN), 5]:
            self.refused(1, Web(2, []), [thing])
            self.refused(1, Web(3, []), [PLAIN, thing])
            self.refused(1, Web(3, []), [thing, PLAIN])

    def test_other_things_in_them(self):
        for at in range(5):
            for thing in strange_things() + [-1, LARGEST + 1, 10 ** 30, Sly(-1), "x", "w" * 9, SlyText("x")]:
                if at == 4 and thing == "w" and isinstance(thing, str) and not isinstance(thing, SlyText):
                    continue
                self.refused(1, Web(2, []), [PLAIN[:at] + (thing,) + PLAIN[at + 1:]])

    def test_rate_is_no_more_than_drift_either_way(self):
        web = Web(2, [])
        for drift in (0, 1, 5, 1000):
            for rate in (-drift, 1 - drift if drift else 0, 0, drift):
                self.assertEqual(Terms(web, [(rate,) + PLAIN[1:]], drift=drift, guard=10000).place(1)[0], rate)
            for rate in (-drift - 1, drift + 1, LARGEST, -LARGEST, LARGEST + 1):
                self.refused(1, web, [(rate,) + PLAIN[1:]], drift=drift, guard=10000)

    def test_where_drift_is_no_size_rate_is_a_shift(self):
        web = Web(2, [])
        for drift in STRANGE_NUMBERS:
            for rate in (0, 5, -5, LARGEST, -LARGEST):
                self.refused(3, web, [(rate,) + PLAIN[1:]], drift=drift)
            for rate in (LARGEST + 1, -LARGEST - 1, True, None, "0"):
                self.refused(1, web, [(rate,) + PLAIN[1:]], drift=drift)

    def test_a_wrong_quiet_is_told_ahead_of_a_wrong_drift(self):
        self.refused(2, Web(2, []), [(LARGEST,) + PLAIN[1:]], drift=None, quiet=0)

    def test_a_wrong_rate_is_told_ahead_of_the_numbers(self):
        self.refused(1, Web(2, []), [(2,) + PLAIN[1:]], drift=1, quiet=0, guard=None)

    def test_error_is_no_more_than_the_bound_either_way(self):
        web = Web(2, [])
        for bound in (0, 1, 5, LARGEST):
            for error in (-bound, 0, bound):
                self.assertEqual(Terms(web, [(0, error, bound, 0, "w")]).place(1), (0, error, bound, 0, "w"))
            for error in (-bound - 1, bound + 1):
                self.refused(1, web, [(0, error, bound, 0, "w")])

    def test_bound_and_energy_are_sizes(self):
        web = Web(2, [])
        for size in (0, 1, LARGEST):
            self.assertEqual(Terms(web, [(0, 0, size, size, "s")]).place(1), (0, 0, size, size, "s"))
        for size in (-1, LARGEST + 1):
            self.refused(1, web, [(0, 0, size, 0, "s")])
            self.refused(1, web, [(0, 0, 0, size, "s")])

    def test_plans(self):
        for plan in ("w", "s", "wswswsws"):
            self.assertEqual(Terms(Web(2, []), [(0, 0, 0, 0, plan)]).place(1), (0, 0, 0, 0, plan))

    def test_each_place_is_looked_at(self):
        web = Web(10, [])
        for at in range(9):
            self.refused(1, web, [PLAIN] * at + [(1,) + PLAIN[1:]] + [PLAIN] * (8 - at))


class NarrowAndLoose(Checked):

    def test_twice_the_guard_is_less_than_the_width(self):
        for many in range(2, 11):
            for pairs in shapes(many):
                web, places = Web(many, pairs), [PLAIN] * (many - 1)
                width = 10 ** 6 // (max(web.slots()) + 1)
                most = (width - 1) // 2
                self.assertEqual(Terms(web, places, guard=most).guard, most)
                for guard in (most + 1, most + 2, width, LARGEST):
                    self.refused_as(Narrow, web, places, guard=guard)

    def test_half_the_width_is_narrow_where_that_is_even(self):
        web = Web(2, [(0, 1)])
        self.assertEqual(Terms(web, [PLAIN], guard=249999).width(), 500000)
        self.refused_as(Narrow, web, [PLAIN], guard=250000)
        self.refused_as(Narrow, web, [PLAIN], guard=250001)

    def test_half_the_width_is_not_narrow_where_that_is_odd(self):
        web = Web(3, row_pairs(3))
        self.assertEqual(Terms(web, [PLAIN] * 2, guard=166666).width(), 333333)
        self.refused_as(Narrow, web, [PLAIN] * 2, guard=166667)

    def test_what_clocks_may_stray_is_no_more_than_the_guard(self):
        for many in (2, 3, 7, 10):
            for quiet, drift, jitter in ((1, 0, 1), (1, 1, 0), (20, 3, 7), (5, 11, 0), (3, 0, 500), (2, 17, 100)):
                web, places = Web(many, row_pairs(many)), [PLAIN] * (many - 1)
                stray = many * (jitter + drift * (quiet + 1))
                named = {"quiet": quiet, "drift": drift, "jitter": jitter}
                for guard in (stray, stray + 1):
                    self.assertEqual(Terms(web, places, guard=guard, **named).guard, guard)
                for guard in (stray - 1, 0):
                    self.refused_as(Loose, web, places, guard=guard, **named)

    def test_one_more_of_any_of_them_is_loose(self):
        web, places = Web(4, []), [PLAIN] * 3
        fits = {"quiet": 3, "drift": 6, "jitter": 1, "guard": 100}
        self.assertEqual(Terms(web, places, **fits).guard, 100)
        for name in ("quiet", "drift", "jitter"):
            self.refused_as(Loose, web, places, **{**fits, name: fits[name] + 1})
        self.refused_as(Loose, Web(5, []), places + [PLAIN], **fits)

    def test_guard_nought(self):
        self.assertEqual(Terms(Web(2, []), [PLAIN], guard=0).guard, 0)
        self.refused_as(Loose, Web(2, []), [PLAIN], jitter=1)
        self.refused_as(Loose, Web(2, []), [PLAIN], drift=1)

    def test_narrow_is_told_ahead_of_loose(self):
        self.refused_as(Narrow, Web(2, []), [PLAIN], guard=500000, jitter=LARGEST)
        self.refused_as(Narrow, Web(2, []), [PLAIN], guard=500000, drift=LARGEST, quiet=20)
        self.refused_as(Loose, Web(2, []), [PLAIN], guard=499999, jitter=LARGEST)

    def test_wrong_is_told_ahead_of_both(self):
        for guard in (0, 500000, LARGEST):
            self.refused(0, None, [PLAIN], guard=guard, jitter=LARGEST)
            self.refused(1, Web(2, []), [], guard=guard, jitter=LARGEST)
            for at, name in enumerate(NUMBERS):
                self.refused(2 + at, Web(2, []), [PLAIN], **{"guard": guard, "jitter": LARGEST, name: None})

    def test_each_is_caught_as_itself_and_its_bases(self):
        for caught, others, named in ((Narrow, (Loose, Wrong), {"guard": 500000}), (Loose, (Narrow, Wrong), {"drift": 1}),
                                      (Wrong, (Narrow, Loose), {"quiet": 0})):
            for base in (caught, FieldError, ValueError):
                with self.assertRaises(base) as told:
                    Terms(Web(2, []), [PLAIN], **named)
                self.assertNotIsInstance(told.exception, others)


class Kept(Checked):

    def test_a_list_changed_behind_the_call_changes_nothing(self):
        places = [PLAIN, (0, 1, 2, 3, "ws")]
        terms = Terms(Web(3, []), places)
        self.assertEqual(places, [PLAIN, (0, 1, 2, 3, "ws")])
        places[0] = None
        del places[1]
        self.assertEqual([terms.place(1), terms.place(2)], [PLAIN, (0, 1, 2, 3, "ws")])

    def test_a_lists_pairs_changed_behind_the_web_change_nothing(self):
        pairs = row_pairs(3)
        terms = Terms(Web(3, pairs), [PLAIN] * 2)
        pairs.clear()
        self.assertEqual((terms.slots_many(), terms.width()), (3, 333333))

    def test_what_is_refused_stays_as_it_was(self):
        places = [PLAIN, None]
        self.refused(1, Web(3, []), places)
        self.assertEqual(places, [PLAIN, None])

    def test_the_same_is_told_again(self):
        terms = Terms(Web(3, row_pairs(3)), [PLAIN, (1, 2, 3, 4, "sw")], drift=1, guard=6)
        told = [(terms.place(1), terms.place(2), terms.many(), terms.slots_many(), terms.width()) for _ in range(3)]
        self.assertEqual(told, [((0, 0, 0, 0, "w"), (1, 2, 3, 4, "sw"), 3, 3, 333333)] * 3)

    def test_told_in_pythons_own_kinds(self):
        for number, text in ((Whole, Text), (Sly, SlyText)):
            places = Row([Pair((number(-2), number(3), number(4), number(5), text("wsw")))])
            named = {"quiet": 3, "drift": 2, "jitter": 1, "guard": 99, "listen": 4, "speak": 5, "item": 6}
            terms = Terms(Web(2, []), places, **{name: number(value) for name, value in named.items()})
            self.assertEqual({name: getattr(terms, name) for name in NUMBERS}, named)
            self.assertEqual(terms.place(1), (-2, 3, 4, 5, "wsw"))
            self.assertEqual(terms.place(number(1)), (-2, 3, 4, 5, "wsw"))
            for told in [getattr(terms, name) for name in NUMBERS] + [
                    terms.place(1), terms.many(), terms.slots_many(), terms.width()]:
                self.assertTrue(is_own(told), told)

    def test_numbers_of_classes_beneath_are_refused_as_their_number_is(self):
        self.refused(1, Web(2, []), [(Sly(3), 0, 0, 0, "w")], drift=Sly(2), guard=99)
        self.refused(1, Web(2, []), [(0, Sly(1), 0, 0, "w")])
        self.refused_as(Narrow, Web(2, []), [PLAIN], guard=Sly(500000))
        self.refused_as(Loose, Web(2, []), [PLAIN], jitter=Sly(3), guard=Sly(5))

    def test_a_web_of_a_class_beneath_is_a_web(self):
        class Net(Web):
            """A web of a class beneath."""

        web = Net(2, [(0, 1)])
        self.assertIs(Terms(web, [PLAIN]).web, web)
        self.refused(0, Other(), [PLAIN])


if __name__ == "__main__":
    unittest.main()
