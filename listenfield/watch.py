"""The bound of loss: whether those in time are heard on time often enough."""

from listenfield.plain import number_of, numbers_in


def bound_held(terms, living, timely, hearings, first, last):
    """Tell whether the bound of loss was held from a turn to another one, in which nobody died."""
    in_time = [numbers_in(row) for row in timely]
    heard = [numbers_in(row) for row in hearings]
    return is_held(terms, numbers_in(living), in_time, heard, number_of(first), number_of(last))


def is_held(terms, living, timely, hearings, first, last):
    """Tell the same of things in Python's own kinds."""
    in_time = set(timely)
    heard = {(turn, speaker, hearer) for turn, speaker, hearer, spoken in hearings if spoken == turn}
    pairs = [(place, near) for place in living for near in terms.web.neighbours(place) if near in living]
    for one, other in pairs:
        unheard = [(turn, one) in in_time and (turn, one, other) not in heard for turn in range(first, last + 1)]
        if longest_run(unheard) >= terms.quiet:
            return False
    return True


def longest_run(truths):
    """Tell how many truths that hold follow one another at most."""
    longest, run = 0, 0
    for truth in truths:
        run = run + 1 if truth else 0
        longest = max(longest, run)
    return longest
