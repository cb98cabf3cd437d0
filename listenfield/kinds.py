"""The kinds of things, told of whatever is handed in."""

from listenfield.plain import number_of, numbers_in, text_of, tuple_of

LAST_PLACE = 9
LAST_TURN = 10 ** 6
LARGEST_SIZE = 10 ** 9
LAST_SORT = 9
LONGEST_PLAN = 8


def is_whole(thing):
    """Tell whether it is an int that is no truth."""
    return number_of(thing) is not None


def is_within(thing, least, most):
    """Tell whether it is a whole number from least to most."""
    number = number_of(thing)
    return number is not None and least <= number <= most


def is_from(thing, least):
    """Tell whether it is a whole number from least on."""
    number = number_of(thing)
    return number is not None and least <= number


def is_place(thing):
    """Tell whether it is a place of some web."""
    return is_within(thing, 0, LAST_PLACE)


def is_turn(thing):
    """Tell whether it is a turn."""
    return is_within(thing, 0, LAST_TURN)


def is_size(thing):
    """Tell whether it is a size."""
    return is_within(thing, 0, LARGEST_SIZE)


def is_shift(thing):
    """Tell whether it is a shift."""
    return is_within(thing, -LARGEST_SIZE, LARGEST_SIZE)


def is_sort(thing):
    """Tell whether it is a sort of what is sensed."""
    return is_within(thing, 0, LAST_SORT)


def is_plan(thing):
    """Tell whether it is a text of w and s, one to eight signs."""
    signs = text_of(thing)
    if signs is None or not 1 <= len(signs) <= LONGEST_PLAN:
        return False
    return all(sign in "ws" for sign in signs)


def is_mark(thing):
    """Tell whether it is a tuple (place, turn)."""
    return mark_of(thing) is not None


def are_marks(thing):
    """Tell whether it is a tuple of one or more marks that rise."""
    marks = rising_marks(thing)
    return marks is not None and len(marks) > 0


def mark_of(thing):
    """Tell a mark in Python's own kinds, None of all else."""
    return numbers_of(thing, (is_place, is_turn))


def rising_marks(thing):
    """Tell a tuple of marks that rise, or of none, in Python's own kinds, None of all else."""
    things = tuple_of(thing)
    if things is None:
        return None
    marks = [mark_of(each) for each in things]
    return tuple(marks) if None not in marks and rises(marks) else None


def rising_places(thing):
    """Tell a tuple of places that rise, or of none, in Python's own kinds, None of all else."""
    things = tuple_of(thing)
    if things is None or not all([is_place(each) for each in things]):
        return None
    places = numbers_in(things)
    return places if rises(places) else None


def numbers_of(thing, kinds):
    """Tell a tuple of whole numbers of these kinds, in order, as Python's own, None of all else."""
    parts = tuple_of(thing)
    if parts is None or len(parts) != len(kinds):
        return None
    if not all([is_kind(part) for is_kind, part in zip(kinds, parts)]):
        return None
    return numbers_in(parts)


def rises(things):
    """Tell of a list or tuple of plain things whether each is greater than the one ahead."""
    return all([ahead < behind for ahead, behind in zip(things, things[1:])])
