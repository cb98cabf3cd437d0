"""Points 22 to 24, and points 2 to 4 and 7 of them: stores, plans, ledgers, and whether these hold."""

import random
import unittest
from itertools import product

from listenfield.errors import FieldError, Wrong
from listenfield.stores import Store, gap, ledger_holds
from listenfield.terms import Terms
from listenfield.webs import Web
from things import Like, Other, Pair, Row, Sly, SlyText, Text, Whole, is_own, row_pairs, strange_things

STRANGE = strange_things() + [Other(), Like(), Store, Terms, "listen"]


def terms_of(energy=100, plan="w", **named):
    """Terms of three places, of which place 1 has an energy and a plan."""
    told = {"listen": 3, "speak": 5, "item": 2}
    told.update(named)
    return Terms(Web(3, row_pairs(3)), [(0, 0, 0, energy, plan), (0, 0, 0, 50, "ws")], **told)


def state(store):
    """All that a store tells."""
    return store.left(), store.ledger()


class Made(unittest.TestCase):

    def test_at_first_as_the_terms_tell(self):
        terms = terms_of()
        self.assertEqual([state(Store(terms, place)) for place in range(3)], [(None, []), (100, []), (50, [])])

    def test_of_terms_and_a_place_of_them(self):
        terms = terms_of()
        for thing in STRANGE + [Web(2, []), 5]:
            for place in (1, None):
                with self.assertRaises(Wrong) as caught:
                    Store(thing, place)
                self.assertEqual(caught.exception.at, 0)
        for thing in STRANGE + [-1, 3, 10, 10 ** 30, Sly(3)]:
            with self.assertRaises(Wrong) as caught:
                Store(terms, thing)
            self.assertEqual((caught.exception.at, type(caught.exception)), (1, Wrong))
            self.assertIsInstance(caught.exception, FieldError)

    def test_told_in_pythons_own_kinds(self):
        for number in (Whole, Sly):
            store = Store(terms_of(energy=number(20), listen=number(3), speak=number(5), item=number(2)), number(1))
            self.assertIs(store.wakes(number(7), True), True)
            self.assertIs(store.speaks(number(7), number(4)), True)
            self.assertEqual(state(store), (4, [(7, "listen", 3), (7, "speak", 13)]))
            self.assertTrue(is_own(list(state(store))))

    def test_each_told_ledger_is_a_new_list(self):
        store = Store(terms_of(), 1)
        store.wakes(0, True)
        store.ledger().append("more")
        store.ledger()[0] = None
        self.assertEqual(store.ledger(), [(0, "listen", 3)])
        root = Store(terms_of(), 0)
        root.ledger().append("more")
        self.assertEqual(root.ledger(), [])


class Wakes(unittest.TestCase):

    def test_by_the_plan(self):
        for plan in ("w", "s", "ws", "sw", "wss", "sws", "wwsswsws"):
            store = Store(terms_of(energy=10 ** 6, plan=plan), 1)
            rows = []
            for turn in range(40):
                planned = plan[turn % len(plan)] == "w"
                self.assertIs(store.wakes(turn, True), planned, (plan, turn))
                rows += [(turn, "listen", 3)] if planned else []
                self.assertEqual(state(store), (10 ** 6 - 3 * len(rows), rows))

    def test_out_of_time_it_wakes_whatever_the_plan(self):
        store = Store(terms_of(plan="s"), 1)
        for turn, timely in enumerate((True, False, True, False, False)):
            self.assertIs(store.wakes(turn, timely), not timely)
        self.assertEqual(state(store), (91, [(1, "listen", 3), (3, "listen", 3), (4, "listen", 3)]))

    def test_while_the_store_has_it(self):
        for energy in range(12):
            for timely in (True, False):
                store = Store(terms_of(energy=energy), 1)
                told = [store.wakes(turn, timely) for turn in range(5)]
                self.assertEqual(told, [turn < energy // 3 for turn in range(5)])
                self.assertEqual(state(store), (energy % 3, [(at, "listen", 3) for at in range(energy // 3)]))

    def test_asleep_it_pays_nothing(self):
        for energy, plan in ((2, "w"), (100, "s"), (0, "w")):
            store = Store(terms_of(energy=energy, plan=plan), 1)
            for turn in range(4):
                self.assertIs(store.wakes(turn, True), False)
            self.assertEqual(state(store), (energy, []))

    def test_a_price_of_nought_is_paid_too(self):
        store = Store(terms_of(energy=0, listen=0), 1)
        self.assertEqual([store.wakes(turn, True) for turn in (2, 5)], [True, True])
        self.assertEqual(state(store), (0, [(2, "listen", 0), (5, "listen", 0)]))

    def test_the_whole_store_may_be_paid(self):
        store = Store(terms_of(energy=3), 1)
        self.assertIs(store.wakes(0, True), True)
        self.assertEqual(state(store), (0, [(0, "listen", 3)]))
        self.assertIs(store.wakes(1, True), False)

    def test_late_turns(self):
        store = Store(terms_of(plan="sw"), 1)
        self.assertIs(store.wakes(10 ** 6 - 1, True), True)
        self.assertIs(store.wakes(10 ** 6, True), False)


class Speaks(unittest.TestCase):

    def test_by_how_many_items(self):
        for items in range(8):
            store = Store(terms_of(), 1)
            store.wakes(4, True)
            self.assertIs(store.speaks(4, items), True)
            self.assertEqual(state(store), (92 - 2 * items, [(4, "listen", 3), (4, "speak", 5 + 2 * items)]))

    def test_while_the_store_has_it(self):
        for energy in range(3, 30):
            for items in range(6):
                store = Store(terms_of(energy=energy), 1)
                store.wakes(0, True)
                price = 5 + 2 * items
                spoken = energy - 3 >= price
                self.assertIs(store.speaks(0, items), spoken)
                rows = [(0, "listen", 3)] + ([(0, "speak", price)] if spoken else [])
                self.assertEqual(state(store), (energy - 3 - (price if spoken else 0), rows))

    def test_a_price_of_nought_is_paid_too(self):
        store = Store(terms_of(energy=0, listen=0, speak=0, item=0), 1)
        store.wakes(1, True)
        self.assertIs(store.speaks(1, 1000), True)
        self.assertEqual(state(store), (0, [(1, "listen", 0), (1, "speak", 0)]))

    def test_silent_it_pays_nothing_and_goes_on(self):
        store = Store(terms_of(energy=20), 1)
        store.wakes(0, True)
        self.assertIs(store.speaks(0, 7), False)
        self.assertEqual(state(store), (17, [(0, "listen", 3)]))
        store.wakes(1, True)
        self.assertIs(store.speaks(1, 4), True)
        self.assertEqual(state(store), (1, [(0, "listen", 3), (1, "listen", 3), (1, "speak", 13)]))


class Root(unittest.TestCase):

    def test_always_awake_and_it_pays_nothing(self):
        for listen, speak in ((3, 5), (0, 0), (10 ** 9, 10 ** 9)):
            root = Store(terms_of(listen=listen, speak=speak, item=10 ** 9), 0)
            for turn in range(5):
                self.assertIs(root.wakes(turn, turn % 2 == 0), True)
                self.assertIs(root.speaks(turn, 100), True)
                self.assertEqual(state(root), (None, []))
        self.assertEqual(state(root.copied()), (None, []))
        self.assertIs(root.copied().wakes(9, True), True)


class Copied(unittest.TestCase):

    def test_it_is_alike_and_goes_on_by_itself(self):
        for change in (lambda store: store.wakes(5, True), lambda store: store.speaks(3, 2)):
            store = Store(terms_of(plan="swww"), 1)
            store.wakes(1, True)
            store.speaks(1, 1)
            store.wakes(3, True)
            before = state(store)
            twin = store.copied()
            self.assertEqual(state(twin), before)
            self.assertIs(change(twin), True)
            after = state(twin)
            self.assertNotEqual(after, before)
            self.assertEqual(state(store), before)
            self.assertIs(change(store), True)
            self.assertEqual((state(store), state(twin)), (after, after))
            store.wakes(9, True)
            self.assertEqual(state(twin), after)

    def test_it_goes_on_as_the_elder_would(self):
        for plan in ("w", "ws", "s"):
            store = Store(terms_of(plan=plan, energy=40), 1)
            store.wakes(0, False)
            twin = store.copied()
            for turn in range(1, 12):
                told = [(each.wakes(turn, turn % 3 > 0) and each.speaks(turn, 1)) for each in (store, twin)]
                self.assertEqual(told[0], told[1])
                self.assertEqual(state(store), state(twin))


def gap_by_turns(plan, other):
    """The gap of two plans, by looking at each turn of many."""
    both = [turn for turn in range(400) if plan[turn % len(plan)] == other[turn % len(other)] == "w"]
    return max((behind - ahead for ahead, behind in zip(both, both[1:])), default=None)


class Gap(unittest.TestCase):

    def test_told_ones(self):
        for plan, other, told in (
                ("w", "w", 1), ("w", "s", None), ("s", "s", None), ("ws", "sw", None), ("ws", "ws", 2), ("ws", "w", 2),
                ("wss", "ws", 6), ("wwws", "w", 2), ("wwss", "w", 3), ("wsw", "ws", 4), ("wsssssss", "wssssss", 56),
                ("sssssssw", "ssssssw", 56), ("wsssssss", "swssssss", None), ("wssw", "ww", 3), ("wwwwwwww", "w", 1)):
            self.assertEqual(gap(plan, other), told, (plan, other))
            self.assertEqual(gap(other, plan), told, (other, plan))

    def test_as_looking_at_each_turn_tells(self):
        plans = ["".join(signs) for length in range(1, 5) for signs in product("ws", repeat=length)]
        plans += ["wssssss", "swswwss", "ssssssss", "wssswsss", "wwwwwwws", "sssswsws"]
        for plan, other in product(plans, repeat=2):
            self.assertEqual(gap(plan, other), gap_by_turns(plan, other), (plan, other))

    def test_around_the_end(self):
        self.assertEqual(gap("swwwwsss", "w"), 5)
        self.assertEqual(gap("wwwwssss", "wwww"), 5)
        self.assertEqual(gap("sswsssss", "w"), 8)

    def test_of_classes_beneath(self):
        for text in (Text, SlyText):
            told = gap(text("wss"), text("ws"))
            self.assertEqual((told, type(told)), (6, int))
            self.assertIsNone(gap(text("s"), text("w")))


class LedgerHolds(unittest.TestCase):

    def setUp(self):
        self.terms = terms_of(energy=40)

    def holds(self, ledger, left, place=1, terms=None):
        told = ledger_holds(terms or self.terms, place, ledger, left)
        self.assertIs(type(told), bool)
        return told

    def test_right_ones(self):
        self.assertIs(self.holds([], 40), True)
        self.assertIs(self.holds([], 50, 2), True)
        self.assertIs(self.holds([(0, "listen", 3)], 37), True)
        self.assertIs(self.holds([(0, "listen", 3), (0, "speak", 5)], 32), True)
        self.assertIs(self.holds([(0, "listen", 3), (0, "speak", 37)], 0), True)
        self.assertIs(self.holds([(2, "listen", 3), (5, "listen", 3), (5, "speak", 9), (10 ** 6, "listen", 3)], 22), True)

    def test_what_stores_tell_holds(self):
        for seed in range(200):
            chance = random.Random(seed)
            terms = terms_of(energy=chance.randint(0, 60), plan=chance.choice(["w", "ws", "sww", "s"]),
                             listen=chance.randint(0, 4), speak=chance.randint(0, 4), item=chance.randint(0, 3))
            for place in range(3):
                store = Store(terms, place)
                for turn in range(15):
                    if store.wakes(turn, chance.random() < 0.7) and chance.random() < 0.7:
                        store.speaks(turn, chance.randint(0, 5))
                    left, ledger = state(store)
                    self.assertIs(ledger_holds(terms, place, ledger, left), True)
                    if place:
                        self.assertEqual(left + sum(price for _, _, price in ledger), terms.place(place)[3])
                        self.assertGreaterEqual(left, 0)
                        self.assertIs(ledger_holds(terms, place, ledger, left + 1), False)
                        self.assertIs(ledger_holds(terms, place, ledger[1:], left), not ledger or ledger[0][2] == 0 and (
                            len(ledger) == 1 or ledger[1][1] == "listen"))

    def test_the_root(self):
        self.assertIs(self.holds([], None, 0), True)
        self.assertIs(self.holds(Row(), None, Sly(0)), True)
        for left in (0, 40, 1, False, "", (), Like()):
            self.assertIs(self.holds([], left, 0), False)
        for ledger in ([(0, "listen", 3)], [(0, "listen", 0)], [None], (), None, {}, "", Like(), [Like()]):
            self.assertIs(self.holds(ledger, None, 0), False)

    def test_places_of_the_terms(self):
        for thing in STRANGE + [3, -1, 10, Sly(3), True]:
            for ledger, left in (([], 40), ([], 50), ([], None), ([], 0)):
                self.assertIs(self.holds(ledger, left, thing), False)
        self.assertIs(self.holds([], 40, 2), False)
        self.assertIs(self.holds([], 40, Sly(1)), True)

    def test_what_is_left(self):
        for thing in STRANGE + [38, 36, 0, -37, 40, 10 ** 30, [37], "37", Sly(38)]:
            self.assertIs(self.holds([(0, "listen", 3)], thing), False)
        self.assertIs(self.holds([(0, "listen", 3)], Sly(37)), True)
        self.assertIs(self.holds([], None), False)
        terms = terms_of(energy=4)
        self.assertIs(self.holds([(0, "listen", 3)], True, terms=terms), False)
        self.assertIs(self.holds([(0, "listen", 3)], 1, terms=terms), True)

    def test_the_ledger_is_a_list_of_tuples(self):
        row = (0, "listen", 3)
        for thing in STRANGE + [(row,), {row}, {row: 1}, iter([row]), row, 5]:
            if not (isinstance(thing, list) and thing == []):
                self.assertIs(self.holds(thing, 37), False)
        for thing in STRANGE + [list(row), row[:2], row + (0,), (0, 3, "listen"), ("listen", 0, 3), 5]:
            self.assertIs(self.holds([thing], 37), False)
            self.assertIs(self.holds([row, thing], 34), False)
            self.assertIs(self.holds([thing, (1, "listen", 3)], 34), False)

    def test_turns_are_turns(self):
        for turn in (0, 10 ** 6):
            self.assertIs(self.holds([(turn, "listen", 3)], 37), True)
        for thing in STRANGE + [-1, 10 ** 6 + 1, Sly(-1)]:
            self.assertIs(self.holds([(thing, "listen", 3)], 37), False)

    def test_turns_do_not_fall(self):
        self.assertIs(self.holds([(3, "listen", 3), (4, "listen", 3)], 34), True)
        self.assertIs(self.holds([(4, "listen", 3), (3, "listen", 3)], 34), False)
        self.assertIs(self.holds([(4, "listen", 3), (4, "speak", 5), (3, "listen", 3)], 29), False)
        self.assertIs(self.holds([(0, "listen", 3), (9, "listen", 3), (5, "listen", 3)], 31), False)

    def test_listening_once_in_a_turn(self):
        self.assertIs(self.holds([(4, "listen", 3), (4, "listen", 3)], 34), False)
        self.assertIs(self.holds([(4, "listen", 3), (4, "speak", 5), (4, "listen", 3)], 29), False)

    def test_listening_has_its_price(self):
        for price in (0, 2, 4, 5, -3, 6):
            self.assertIs(self.holds([(4, "listen", price)], 40 - price), False)
        for thing in STRANGE + [Sly(4)]:
            self.assertIs(self.holds([(4, "listen", thing)], 37), False)

    def test_speaking_has_a_price_of_whole_items(self):
        for price in range(-10, 30):
            right = price >= 5 and (price - 5) % 2 == 0
            self.assertIs(self.holds([(4, "listen", 3), (4, "speak", price)], 37 - price), right, price)
        for thing in STRANGE + [Sly(6)]:
            self.assertIs(self.holds([(4, "listen", 3), (4, "speak", thing)], 32), False)

    def test_where_items_cost_one(self):
        terms = terms_of(energy=40, item=1)
        for price in range(-3, 12):
            self.assertIs(self.holds([(4, "listen", 3), (4, "speak", price)], 37 - price, terms=terms), price >= 5)

    def test_where_items_cost_nothing(self):
        terms = terms_of(energy=40, item=0)
        for price in range(-3, 12):
            self.assertIs(self.holds([(4, "listen", 3), (4, "speak", price)], 37 - price, terms=terms), price == 5)

    def test_where_nothing_costs_anything(self):
        terms = terms_of(energy=0, listen=0, speak=0, item=0)
        self.assertIs(self.holds([(4, "listen", 0), (4, "speak", 0), (5, "listen", 0)], 0, terms=terms), True)
        self.assertIs(self.holds([(4, "listen", 0), (4, "listen", 0)], 0, terms=terms), False)
        self.assertIs(self.holds([(4, "listen", False)], 0, terms=terms), False)
        self.assertIs(self.holds([(4, "listen", 0)], False, terms=terms), False)

    def test_speaking_stands_right_behind_the_listening_of_its_turn(self):
        for ledger in ([(4, "speak", 5)], [(3, "listen", 3), (4, "speak", 5)], [(4, "speak", 5), (4, "listen", 3)],
                       [(4, "listen", 3), (4, "speak", 5), (4, "speak", 5)],
                       [(4, "listen", 3), (5, "listen", 3), (4, "speak", 5)],
                       [(4, "listen", 3), (4, "speak", 5), (5, "speak", 5)]):
            self.assertIs(self.holds(ledger, 40 - sum(price for _, _, price in ledger)), False)

    def test_other_words(self):
        for word in ("Listen", "listens", "", "speak ", "l", "pay", None, b"listen", 0, ("listen",), Like(), Text("pay")):
            for price in (3, 5):
                self.assertIs(self.holds([(4, word, price)], 40 - price), False)
                self.assertIs(self.holds([(4, "listen", 3), (4, word, price)], 37 - price), False)

    def test_each_price_was_there_to_be_paid(self):
        terms = terms_of(energy=7)
        self.assertIs(self.holds([(0, "listen", 3), (1, "listen", 3)], 1, terms=terms), True)
        self.assertIs(self.holds([(0, "listen", 3), (1, "listen", 3), (2, "listen", 3)], -2, terms=terms), False)
        self.assertIs(self.holds([(0, "listen", 3), (0, "speak", 5)], -1, terms=terms), False)
        self.assertIs(self.holds([(0, "listen", 3), (0, "speak", 5), (1, "listen", -1)], 0, terms=terms), False)

    def test_of_classes_beneath(self):
        for number, text in ((Whole, Text), (Sly, Text)):
            ledger = Row([Pair((number(4), text("listen"), number(3))), Pair((number(4), text("speak"), number(7)))])
            self.assertIs(self.holds(ledger, number(30), number(1)), True)
            self.assertIs(self.holds(ledger, number(31), number(1)), False)
            self.assertIs(self.holds(ledger[1:], number(33), number(1)), False)
            self.assertIs(self.holds([(number(5), "listen", 3), (number(4), "listen", 3)], 34), False)
        self.assertIs(self.holds([(4, SlyText("pay"), 3)], 37), False)
        self.assertIs(self.holds([(4, SlyText("listen"), 3)], 37), True)

    def test_the_same_is_told_again_and_nothing_is_changed(self):
        ledger = [(4, "listen", 3), (4, "speak", 7)]
        self.assertEqual([self.holds(ledger, 30) for _ in range(3)], [True] * 3)
        self.assertEqual(ledger, [(4, "listen", 3), (4, "speak", 7)])


if __name__ == "__main__":
    unittest.main()
