"""Answers: what is told for a window that closes, and whether such a paper holds."""

from math import gcd

from listenfield.items import greatest
from listenfield.kinds import is_from, mark_of, rises, rising_marks, rising_places
from listenfield.plain import number_of, numbers_in, tuple_of

ANSWER_PARTS = 10


def mean_of(total, count):
    """Tell a total by a count as a tuple (top, bottom) in lowest terms."""
    top, bottom = number_of(total), number_of(count)
    common = gcd(top, bottom)
    return top // common, bottom // common


def answer_of(number, window, turn, items, rooms):
    """Tell the answer for a window, of the items that the root holds and the rooms of all that was sensed."""
    tops = greatest(items)
    marks = sorted([mark for item in tops for mark in item[2]])
    figures = figures_of(len(marks), [item[3] for item in tops], [item[4] for item in tops], [item[5] for item in tops])
    known = sorted([(numbers_in(mark), numbers_in(places)) for mark, places in rooms.items()])
    lacks = tuple([row for row in known if row[0] not in marks])
    return number_of(number), number_of(window), number_of(turn), tuple(marks), *figures, lacks


def answer_holds(sensed, answer):
    """Tell of whatever is handed in last whether it is an answer that holds for a list of what was sensed."""
    parts = tuple_of(answer)
    if parts is None or len(parts) != ANSWER_PARTS:
        return False
    number, window, turn, told_marks, *told_figures, told_lacks = parts
    if not is_from(number, 1) or not is_from(window, 0) or not is_from(turn, 0):
        return False
    marks, lacking = rising_marks(told_marks), marks_lacking(told_lacks)
    if marks is None or lacking is None:
        return False
    readings = readings_of(sensed)
    if sorted([*marks, *lacking]) != sorted(readings):
        return False
    chosen = [readings[mark] for mark in marks]
    figures = figures_of(len(marks), chosen, chosen, chosen)
    return all([is_figure(thing, figure) for thing, figure in zip(told_figures, figures)])


def figures_of(count, totals, leasts, mosts):
    """Tell the tuple (count, total, least, greatest, mean) of so many marks."""
    if count == 0:
        return 0, 0, None, None, None
    total = sum(totals)
    return count, total, min(leasts), max(mosts), mean_of(total, count)


def readings_of(sensed):
    """Tell what was sensed as a dict from marks to readings."""
    return {(number_of(place), number_of(turn)): number_of(reading) for place, turn, reading in sensed}


def marks_lacking(thing):
    """Tell the marks of a tuple of what lacks, which rise and have a room each, None of all else."""
    things = tuple_of(thing)
    if things is None:
        return None
    rows = [tuple_of(each) for each in things]
    if not all([row is not None and len(row) == 2 and rising_places(row[1]) for row in rows]):
        return None
    marks = [mark_of(mark) for mark, _ in rows]
    return marks if None not in marks and rises(marks) else None


def is_figure(thing, figure):
    """Tell whether whatever is handed in is a right figure: None, a whole number or a mean."""
    if figure is None:
        return thing is None
    parts = tuple_of(thing)
    if parts is None:
        return number_of(thing) == figure
    return numbers_in(parts) == figure
