"""Python's own kinds, made of what is handed in.

What is handed in may be of a class beneath Python's own, with signs and
methods of another meaning. So it is made plain once, and only that is asked.
"""


def number_of(thing):
    """Tell a whole number as Python's own, None of all else."""
    if not isinstance(thing, int) or isinstance(thing, bool):
        return None
    # A range reads the number itself: no method of its class has a say.
    ahead = range(thing)
    if 0 in ahead:
        return ahead[-1] + 1
    behind = range(thing, 1)
    return behind[0]


def text_of(thing):
    """Tell a text as Python's own, None of all else."""
    if not isinstance(thing, str):
        return None
    # The join reads the signs themselves: no method of its class has a say.
    return "".join([thing])


def tuple_of(thing):
    """Tell a tuple as Python's own, None of all else."""
    return tuple(thing) if isinstance(thing, tuple) else None


def numbers_in(things):
    """Tell a tuple of the whole numbers in a tuple or list, as Python's own."""
    return tuple([number_of(thing) for thing in things])


def list_of(thing):
    """Tell a new list of what is in a list, None of all else."""
    return list(thing) if isinstance(thing, list) else None
