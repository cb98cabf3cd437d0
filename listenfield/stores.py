"""Stores: what a place pays for, the ledger of it, and how often two plans wake together."""

from listenfield.kinds import is_turn, is_within
from listenfield.plain import list_of, number_of, text_of, tuple_of
from listenfield.terms import known_place

LISTEN = "listen"
SPEAK = "speak"
ROW_PARTS = 3


class Store:
    """A place's store of energy."""

    def __init__(self, terms, place):
        """Make the store that a place of the terms has at first."""
        self._place = known_place(terms, place)
        self._terms = terms
        # The root has no store, and what it does has no price.
        self._left, self._plan = None, None
        if self._place != 0:
            _, _, _, self._left, self._plan = terms.place(self._place)
        self._ledger = []

    def left(self):
        """Tell what is left, None of the root."""
        return self._left

    def ledger(self):
        """Tell what was paid, in order, as tuples (turn, what for, price)."""
        return list(self._ledger)

    def wakes(self, turn, timely):
        """Tell whether the place, in time or not, wakes in a turn, and pay for it."""
        if timely and not self._plans(number_of(turn)):
            return False
        return self._pays(number_of(turn), LISTEN, self._terms.listen)

    def speaks(self, turn, items):
        """Tell whether the place can speak so many items in a turn, and pay for it."""
        return self._pays(number_of(turn), SPEAK, self._terms.speak + self._terms.item * number_of(items))

    def copied(self):
        """Tell a store that is alike and goes on by itself."""
        twin = Store(self._terms, self._place)
        twin._left = self._left
        twin._ledger = list(self._ledger)
        return twin

    def _plans(self, turn):
        """Tell whether the place is to wake in a turn, in time though it is."""
        return self._place == 0 or wakes_by(self._plan, turn)

    def _pays(self, turn, what, price):
        """Pay a price if it is there, and tell whether it was."""
        if self._place == 0:
            return True
        if self._left < price:
            return False
        self._left -= price
        self._ledger.append((turn, what, price))
        return True


def wakes_by(plan, turn):
    """Tell whether a plan has w in a turn."""
    return plan[turn % len(plan)] == "w"


def gap(plan, other):
    """Tell the greatest number of turns from one in which both plans have w to the next, None without such."""
    one, two = text_of(plan), text_of(other)
    # As many turns as both lengths make together bring both plans to their beginning.
    round_many = len(one) * len(two)
    both = [turn for turn in range(round_many) if wakes_by(one, turn) and wakes_by(two, turn)]
    if not both:
        return None
    nexts = [*both[1:], both[0] + round_many]
    return max([behind - ahead for ahead, behind in zip(both, nexts)])


def ledger_holds(terms, place, ledger, left):
    """Tell of whatever is handed in behind the terms whether it is a place's ledger and what is left."""
    things = list_of(ledger)
    if things is None or not is_within(place, 0, terms.many() - 1):
        return False
    if number_of(place) == 0:
        return things == [] and left is None
    rows = [row_of(each) for each in things]
    if None in rows or not all([is_priced(terms, row) for row in rows]) or not stand_right(rows):
        return False
    _, _, _, energy, _ = terms.place(number_of(place))
    # No price is below 0: where all were there to be paid together, each one was.
    rest = energy - sum([price for _, _, price in rows])
    return rest >= 0 and number_of(left) == rest


def row_of(thing):
    """Tell a tuple (turn, what for, price) in Python's own kinds, None of all else."""
    parts = tuple_of(thing)
    if parts is None or len(parts) != ROW_PARTS:
        return None
    turn, what, price = number_of(parts[0]), text_of(parts[1]), number_of(parts[2])
    if not is_turn(turn) or what is None or price is None:
        return None
    return turn, what, price


def is_priced(terms, row):
    """Tell whether a ledger's row is for what may be paid for, and has a price that this can have."""
    _, what, price = row
    if what == LISTEN:
        return price == terms.listen
    if what != SPEAK:
        return False
    more = price - terms.speak
    if terms.item == 0:
        return more == 0
    return more >= 0 and more % terms.item == 0


def stand_right(rows):
    """Tell whether a ledger's rows stand by turns, listening once in each, speaking right behind."""
    ahead = (-1, SPEAK)
    for turn, what, _ in rows:
        if what == SPEAK and ahead != (turn, LISTEN):
            return False
        if what == LISTEN and turn <= ahead[0]:
            return False
        ahead = (turn, what)
    return True
