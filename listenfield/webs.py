"""Webs of places: neighbours, slots, distances, the cut, and papers of these."""

from listenfield.errors import Wrong
from listenfield.kinds import is_within, rises
from listenfield.plain import list_of, number_of, tuple_of

FEWEST = 2
MOST = 10


class Web:
    """So many places, and the pairs of them that are neighbours."""

    def __init__(self, many, pairs):
        """Make a web of so many places and a list of their pairs."""
        if not is_within(many, FEWEST, MOST):
            raise Wrong(0)
        self._many = number_of(many)
        self._pairs = pairs_of(self._many, pairs)
        if self._pairs is None:
            raise Wrong(1)
        self._near = near_lists(self._many, self._pairs)

    def many(self):
        """Tell how many places there are."""
        return self._many

    def pairs(self):
        """Tell the pairs, rising."""
        return list(self._pairs)

    def neighbours(self, place):
        """Tell the neighbours of a place, rising."""
        return list(self._near[self._known(place, 0)])

    def clash(self, one, other):
        """Tell whether two places are unlike and near enough to disturb each other."""
        return self._clashes(self._known(one, 0), self._known(other, 1))

    def slots(self):
        """Tell for each place the least number that no lesser place that clashes has."""
        told = []
        for place in range(self._many):
            barred = [told[lesser] for lesser in range(place) if self._clashes(lesser, place)]
            told.append(least_free(barred))
        return told

    def distances(self, living):
        """Tell for each place the steps of a shortest living road, None without one."""
        alive = [number_of(place) for place in living]
        told = [None] * self._many
        edge = [0]
        steps = 0
        while edge:
            for place in edge:
                told[place] = steps
            steps += 1
            edge = [place for place in alive if told[place] is None and self._touches(place, edge)]
        return told

    def cut(self, living):
        """Tell the living places without a living road, rising."""
        far = self.distances(living)
        alive = [number_of(place) for place in living]
        return [place for place in alive if far[place] is None]

    def _known(self, thing, at):
        """Tell the place of the web that was handed in as thing at."""
        if not is_within(thing, 0, self._many - 1):
            raise Wrong(at)
        return number_of(thing)

    def _clashes(self, one, other):
        """Tell whether two known places clash."""
        if one == other:
            return False
        return other in self._near[one] or self._touches(one, self._near[other])

    def _touches(self, place, places):
        """Tell whether a known place has a neighbour among some places."""
        return any([near in places for near in self._near[place]])


def slots_hold(web, slots):
    """Tell of whatever is handed in last whether it is a list of slots that holds."""
    things = list_of(slots)
    if things is None or len(things) != web.many():
        return False
    numbers = [number_of(thing) for thing in things]
    if any([number is None or number < 0 for number in numbers]):
        return False
    for place, number in enumerate(numbers):
        if any([numbers[lesser] == number and web.clash(lesser, place) for lesser in range(place)]):
            return False
    return True


def road_holds(web, living, place, road):
    """Tell of whatever is handed in last whether it is a living road of a place."""
    things = list_of(road)
    if not things:
        return False
    places = [number_of(thing) for thing in things]
    alive = [number_of(thing) for thing in living]
    if places[0] != number_of(place) or places[-1] != 0:
        return False
    if any([each not in alive for each in places]):
        return False
    return all([nearer in web.neighbours(each) for each, nearer in zip(places, places[1:])])


def cut_holds(web, living, cut):
    """Tell of whatever is handed in last whether it is a cut that holds."""
    things = list_of(cut)
    if things is None:
        return False
    places = [number_of(thing) for thing in things]
    alive = [number_of(thing) for thing in living]
    if any([place == 0 or place not in alive for place in places]) or not rises(places):
        return False
    around = [near for place in places for near in web.neighbours(place)]
    return all([near in places or near not in alive for near in around])


def pairs_of(many, thing):
    """Tell a list of rising pairs of so many places, None of all else."""
    things = list_of(thing)
    if things is None:
        return None
    pairs = [pair_of(many, each) for each in things]
    return pairs if None not in pairs and rises(pairs) else None


def pair_of(many, thing):
    """Tell a pair of so many places, the lesser first, None of all else."""
    parts = tuple_of(thing)
    if parts is None or len(parts) != 2:
        return None
    if not all([is_within(part, 0, many - 1) for part in parts]):
        return None
    lesser, greater = [number_of(part) for part in parts]
    return (lesser, greater) if lesser < greater else None


def near_lists(many, pairs):
    """Tell for each of so many places its neighbours, rising."""
    near = [[] for _ in range(many)]
    # Each place's lesser neighbours come first, for the pairs rise.
    for lesser, greater in pairs:
        near[lesser].append(greater)
        near[greater].append(lesser)
    return near


def least_free(barred):
    """Tell the least number from 0 on that isn't barred."""
    number = 0
    while number in barred:
        number += 1
    return number
