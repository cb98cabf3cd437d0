"""Items: what was sensed, and what was merged of it, with the marks of who is in it."""

from listenfield.kinds import are_marks, is_from, is_whole
from listenfield.plain import number_of, numbers_in, tuple_of

ITEM_PARTS = 7


def is_item(thing):
    """Tell whether it is an item."""
    parts = tuple_of(thing)
    if parts is None or len(parts) != ITEM_PARTS:
        return False
    number, window, marks, *figures, loose = parts
    if not are_marks(marks) or not is_from(number, 1) or not is_from(window, 0):
        return False
    return all([is_whole(figure) for figure in figures]) and isinstance(loose, bool)


def item_of(number, window, place, turn, reading):
    """Tell the item of a reading that a place sensed in a turn."""
    sensed = number_of(reading)
    marks = ((number_of(place), number_of(turn)),)
    return number_of(number), number_of(window), marks, sensed, sensed, sensed, False


def merged(items):
    """Tell the merged one of items of one question and window, one or more."""
    return merge([plain_item(item) for item in items])


def lies_within(one, other):
    """Tell whether one item lies within another one."""
    return is_within_item(plain_item(one), plain_item(other))


def is_laminar(items):
    """Tell whether of any two items of one question and window one lies within the other, or they are apart."""
    rows = [plain_item(item) for item in items]
    return all([fit_together(one, other) for at, one in enumerate(rows) for other in rows[:at]])


def greatest(items):
    """Tell the items that lie within no other one, each once, by question, window and marks."""
    rows = [plain_item(item) for item in items]
    # Of those with the same marks the one that isn't loose comes first, and alone is kept.
    rows = sorted(rows, key=rank)
    return [row for at, row in enumerate(rows) if is_top(row, rows[:at], rows[at + 1:])]


def plain_item(item):
    """Tell an item in Python's own kinds."""
    number, window, marks, *figures, loose = item
    row = tuple([numbers_in(mark) for mark in marks])
    total, least, most = numbers_in(figures)
    return number_of(number), number_of(window), row, total, least, most, loose


def rank(item):
    """Tell where a plain item stands: by question, window, marks, the loose one last."""
    return item[:3], item[6]


def merge(items):
    """Tell the merged one of plain items of one question and window."""
    number, window, *_ = items[0]
    marks = sorted(set([mark for item in items for mark in item[2]]))
    total = sum([item[3] for item in items])
    least = min([item[4] for item in items])
    most = max([item[5] for item in items])
    return number, window, tuple(marks), total, least, most, False


def loosened(item):
    """Tell a plain item as a loose one."""
    return *item[:6], True


def is_within_item(one, other):
    """Tell whether one plain item lies within another one."""
    return one[:2] == other[:2] and len(set(one[2]) - set(other[2])) == 0


def is_apart(one, other):
    """Tell whether no mark is in two plain items of one question and window."""
    return one[:2] != other[:2] or len(set(one[2]) & set(other[2])) == 0


def fit_together(one, other):
    """Tell whether two plain items are apart, or one lies within the other."""
    return is_apart(one, other) or is_within_item(one, other) or is_within_item(other, one)


def is_top(item, ahead, behind):
    """Tell whether an item lies within none of those ranked ahead, and in none behind but of the same marks."""
    if any([is_within_item(item, other) for other in ahead]):
        return False
    return all([other[2] == item[2] or not is_within_item(item, other) for other in behind])
