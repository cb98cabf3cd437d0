"""The bound of loss: whether those in time are heard on time often enough."""

from listenfield.plain import number_of, numbers_in


def bound_held(terms, living, timely, hearings, first, last):
    """Tell whether the bound of loss was held from a turn to another one, in which nobody died."""
    alive = [number_of(place) for place in living]
    pairs = [(one, other) for one in alive for other in terms.web.neighbours(one) if other in alive]
    plain_rows = [numbers_in(row) for row in hearings]
    in_time = {numbers_in(row) for row in timely}
    heard = {(turn, speaker, hearer) for turn, speaker, hearer, spoken in plain_rows if spoken == turn}
    turns = list(range(number_of(first), number_of(last) + 1))
    for one, other in pairs:
        unheard = [(turn, one) in in_time and (turn, one, other) not in heard for turn in turns]
        if longest_run(unheard) >= terms.quiet:
            return False
    return True


def longest_run(truths):
    """Tell how many truths that hold follow one another at most."""
    longest, run = 0, 0
    for truth in truths:
        run = run + 1 if truth else 0
        longest = max(longest, run)
    return longest
