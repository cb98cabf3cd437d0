"""Terms: a web, the bounds and costs that hold everywhere, and what each place has."""

from listenfield.errors import Loose, Narrow, Wrong
from listenfield.kinds import LARGEST_SIZE, is_plan, is_size, is_within
from listenfield.plain import list_of, number_of, text_of, tuple_of
from listenfield.webs import Web

TURN_UNITS = 10 ** 6
MOST_QUIET = 20
PLACE_PARTS = 5


class Terms:
    """What a net is made of."""

    def __init__(self, web, places, *, quiet=1, drift=0, jitter=0, guard=0, listen=0, speak=0, item=0):
        """Make terms of a web, a list with a tuple for each place but the root, and numbers."""
        if not isinstance(web, Web):
            raise Wrong(0)
        self.web = web
        self._slots_many = max(web.slots()) + 1
        told = places_of(web.many() - 1, places, drift)
        if told is None:
            raise Wrong(1)
        # The root has nothing told, but a place of its own keeps the others at theirs.
        self._places = [None, *told]
        if not is_within(quiet, 1, MOST_QUIET):
            raise Wrong(2)
        for at, size in enumerate((drift, jitter, guard, listen, speak, item)):
            if not is_size(size):
                raise Wrong(3 + at)
        self.quiet = number_of(quiet)
        self.drift = number_of(drift)
        self.jitter = number_of(jitter)
        self.guard = number_of(guard)
        self.listen = number_of(listen)
        self.speak = number_of(speak)
        self.item = number_of(item)
        if 2 * self.guard >= self.width():
            raise Narrow()
        if self.many() * (self.jitter + self.drift * (self.quiet + 1)) > self.guard:
            raise Loose()

    def same(self, other):
        """Tell whether another thing is these very terms, whatever its class tells of it."""
        return self is other

    def place(self, at):
        """Tell the tuple (rate, error, bound, energy, plan) of a place from 1 on."""
        return self._places[at]

    def many(self):
        """Tell how many places there are."""
        return self.web.many()

    def slots_many(self):
        """Tell how many slots a turn has."""
        return self._slots_many

    def width(self):
        """Tell how many units a slot has."""
        return TURN_UNITS // self._slots_many


def known_place(terms, place):
    """Tell a place of terms, both of which were handed in, terms as thing 0, the place as thing 1."""
    if not isinstance(terms, Terms):
        raise Wrong(0)
    if not is_within(place, 0, terms.many() - 1):
        raise Wrong(1)
    return number_of(place)


def places_of(many, thing, drift):
    """Tell a list of so many places' tuples, None of all else."""
    things = list_of(thing)
    if things is None or len(things) != many:
        return None
    # A wrong drift is refused behind the places: until then it bounds no rate.
    most = number_of(drift) if is_size(drift) else LARGEST_SIZE
    places = [place_of(each, most) for each in things]
    return places if None not in places else None


def place_of(thing, most):
    """Tell a place's tuple, its rate no more than most either way, None of all else."""
    parts = tuple_of(thing)
    if parts is None or len(parts) != PLACE_PARTS:
        return None
    rate, error, bound, energy, plan = parts
    if not is_size(bound) or not is_size(energy) or not is_plan(plan):
        return None
    reach = number_of(bound)
    if not is_within(rate, -most, most) or not is_within(error, -reach, reach):
        return None
    return number_of(rate), number_of(error), reach, number_of(energy), text_of(plan)
