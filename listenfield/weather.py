"""Weathers: what is told of one turn from outside, and whether it fits terms."""

from listenfield.errors import Wrong
from listenfield.kinds import is_place, is_shift, is_sort, is_within, numbers_of
from listenfield.plain import list_of, number_of

LATEST = 50


class Weather:
    """What is told of one turn."""

    def __init__(self, *, dead=None, senses=None, lost=None, late=None, doubled=None, jitters=None):
        """Make a weather of lists, each of which may be left out."""
        told = [
            places_list(dead),
            tuples_list(senses, (is_place, is_sort, is_shift)),
            tuples_list(lost, (is_place, is_place)),
            tuples_list(late, (is_place, is_place, is_later)),
            tuples_list(doubled, (is_place, is_place, is_later)),
            tuples_list(jitters, (is_place, is_place, is_shift)),
        ]
        if None in told:
            raise Wrong(told.index(None))
        self.dead, self.senses, self.lost, self.late, self.doubled, self.jitters = told


def fits(weather, terms):
    """Tell whether a weather fits terms."""
    sensing = [row[:2] for row in weather.senses]
    held_up = [row[:2] for row in weather.lost + weather.late + weather.doubled]
    shifted = [row[:2] for row in weather.jitters]
    places = weather.dead + [place for place, _ in sensing]
    if 0 in weather.dead or any([place >= terms.many() for place in places]):
        return False
    if any([has_twice(rows) for rows in (weather.dead, sensing, held_up, shifted)]):
        return False
    near = terms.web.pairs()
    if any([(min(pair), max(pair)) not in near for pair in held_up + shifted]):
        return False
    return all([-terms.jitter <= shift <= terms.jitter for _, _, shift in weather.jitters])


def is_later(thing):
    """Tell whether it is by how many turns a speech may be heard later."""
    return is_within(thing, 1, LATEST)


def places_list(thing):
    """Tell a new list of the places in a list, [] of None, None of all else."""
    if thing is None:
        return []
    things = list_of(thing)
    if things is None or not all([is_place(each) for each in things]):
        return None
    return [number_of(each) for each in things]


def tuples_list(thing, kinds):
    """Tell a new list of the tuples of these kinds in a list, [] of None, None of all else."""
    if thing is None:
        return []
    things = list_of(thing)
    if things is None:
        return None
    rows = [numbers_of(each, kinds) for each in things]
    return rows if None not in rows else None


def has_twice(things):
    """Tell of plain things whether one of them stands there twice."""
    return len(set(things)) < len(things)
