"""Clocks: how far a place's time is from the root's, and the chain that tells why."""

from listenfield.errors import Wrong
from listenfield.kinds import is_from, is_place, is_turn, is_within, numbers_of
from listenfield.plain import number_of, numbers_in, tuple_of
from listenfield.terms import known_place


class Clock:
    """A place's clock."""

    def __init__(self, terms, place):
        """Make the clock that a place of the terms has at first."""
        self._place = known_place(terms, place)
        self._terms = terms
        # The root's own time is what all others are measured by: it never strays.
        self._rate, self._error, self._bound, self._drift = 0, 0, 0, 0
        if self._place != 0:
            self._rate, self._error, self._bound, _, _ = terms.place(self._place)
            self._drift = terms.drift
        self._chain = (self._place, ())

    def error(self):
        """Tell what its time is ahead of the root's, in units."""
        return self._error

    def bound(self):
        """Tell how far its time may be from the root's, in units."""
        return self._bound

    def chain(self):
        """Tell the tuple (origin, meetings) that shows the bound."""
        return self._chain

    def in_time(self):
        """Tell whether it may speak in its slot."""
        return self._bound <= self._terms.guard

    def turn_more(self):
        """Go on by a turn."""
        self._error += self._rate
        self._bound += self._drift

    def copied(self):
        """Tell a clock that is alike and goes on by itself."""
        twin = Clock(self._terms, self._place)
        twin._error = self._error
        twin._bound = self._bound
        twin._chain = self._chain
        return twin

    def hears(self, other, turn, j):
        """Hear another clock in a turn, and tell whether it is a meeting."""
        jitter = self._terms.jitter
        if not isinstance(other, Clock) or not self._terms.same(other._terms):
            raise Wrong(0)
        if not is_from(turn, 0):
            raise Wrong(1)
        if not is_within(j, -jitter, jitter):
            raise Wrong(2)
        # The root meets none: no bound is below its own, which is 0 for ever.
        if other._bound + jitter >= self._bound:
            return False
        origin, meetings = other._chain
        self._error = other._error + number_of(j)
        self._bound = other._bound + jitter
        self._chain = (origin, (*meetings, (number_of(turn), other._place, self._place)))
        return True


def bound_of(terms, chain, turn):
    """Tell the bound that a chain shows in a turn."""
    origin, meetings = chain
    first, bound = 0, 0
    if number_of(origin) != 0:
        _, _, bound, _, _ = terms.place(number_of(origin))
    elif len(meetings) > 0:
        first = number_of(meetings[0][0])
    else:
        # The root's own bound stays, whatever the turn.
        return 0
    return bound + terms.jitter * len(meetings) + terms.drift * (number_of(turn) - first)


def chain_holds(terms, hearings, chain, place, turn, bound):
    """Tell of whatever is handed in behind the hearings whether the chain shows the place's bound in a turn."""
    told = chain_of(terms, chain)
    if told is None or not is_turn(turn):
        return False
    origin, meetings = told
    last = number_of(turn)
    if any([met > last or hearer == 0 for met, _, hearer in meetings]):
        return False
    if not leads(origin, meetings, number_of(place)) or not stand_in_order(meetings, hearings):
        return False
    return number_of(bound) == bound_of(terms, told, last)


def chain_of(terms, thing):
    """Tell a chain of places of the terms in Python's own kinds, None of all else."""
    parts = tuple_of(thing)
    if parts is None or len(parts) != 2:
        return None
    things = tuple_of(parts[1])
    if things is None or not is_place(parts[0]):
        return None
    origin = number_of(parts[0])
    meetings = [numbers_of(each, (is_turn, is_place, is_place)) for each in things]
    if None in meetings:
        return None
    places = [place for _, speaker, hearer in meetings for place in (speaker, hearer)]
    if max([origin, *places]) >= terms.many():
        return None
    return origin, tuple(meetings)


def leads(origin, meetings, place):
    """Tell whether meetings lead from an origin to a place, each from where the one before it led."""
    at = origin
    for _, speaker, hearer in meetings:
        if speaker != at:
            return False
        at = hearer
    return at == place


def stand_in_order(meetings, hearings):
    """Tell whether each meeting is a hearing, each one behind the one before it."""
    rest = list(meetings)
    # From the end on: a chain's meetings are mostly among the last hearings.
    for hearing in reversed(hearings):
        if not rest:
            return True
        if numbers_in(hearing) == rest[-1]:
            rest.pop()
    return not rest
