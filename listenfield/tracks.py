"""Ways: by which takings a mark came to a place, and why one that lacks didn't come to the root."""

from listenfield.plain import list_of, number_of, numbers_in, tuple_of

TAKING_PARTS = 5
DEAD = "dead"
CUT = "cut"
LATE = "late"


def way_to(takings, number, window, mark, place):
    """Tell the way of a mark to a place whose last taking stands first, None without one."""
    asked, bit, end = number_of(number), plain_bit((window, mark)), number_of(place)
    # Each place keeps the first way that leads to it: no way on from there comes sooner by another one.
    ways = {number_of(mark[0]): []}
    for taking in takings:
        if end in ways:
            return ways[end]
        # Most takings are passed over by their numbers alone: their bits are many.
        if number_of(taking[1]) in ways and number_of(taking[2]) not in ways and number_of(taking[3]) == asked:
            known = plain_taking(taking)
            _, speaker, hearer, _, bits = known
            if bit in bits:
                ways[hearer] = [*ways[speaker], known]
    return ways.get(end)


def way_holds(takings, number, window, mark, place, way):
    """Tell of whatever is handed in last whether it is a way of a mark to a place."""
    things = list_of(way)
    if things is None:
        return False
    steps = [taking_of(thing) for thing in things]
    asked, bit, at = number_of(number), plain_bit((window, mark)), number_of(mark[0])
    for step in steps:
        if step is None or step[1] != at or step[3] != asked or bit not in step[4]:
            return False
        at = step[2]
    return at == number_of(place) and stand_behind(steps, takings)


def reason_of(web, living, rooms):
    """Tell why a mark with these rooms lacked."""
    alive = list(numbers_in(living))
    left = [room for room in numbers_in(rooms) if room in alive]
    if not left:
        return DEAD
    far = web.distances(alive)
    return LATE if any([far[room] is not None for room in left]) else CUT


def bits_of(items):
    """Tell each (window, mark) of a parcel's items once, rising."""
    return tuple(sorted(set([(item[1], mark) for item in items for mark in item[2]])))


def plain_taking(taking):
    """Tell a taking in Python's own kinds."""
    turn, speaker, hearer, number, bits = taking
    row = tuple([plain_bit(bit) for bit in bits])
    return number_of(turn), number_of(speaker), number_of(hearer), number_of(number), row


def plain_bit(bit):
    """Tell a (window, mark) in Python's own kinds."""
    window, mark = bit
    return number_of(window), numbers_in(mark)


def taking_of(thing):
    """Tell a taking in Python's own kinds, or what is like none, with None for what is none of these."""
    parts = tuple_of(thing)
    if parts is None or len(parts) != TAKING_PARTS:
        return None
    bits = tuple_of(parts[4])
    if bits is None:
        return None
    numbers = numbers_in(parts[:4])
    return (*numbers, tuple([bit_of(bit) for bit in bits]))


def bit_of(thing):
    """Tell a (window, mark) in Python's own kinds, or what is like none, with None for what is none of these."""
    parts = tuple_of(thing)
    if parts is None or len(parts) != 2:
        return None
    mark = tuple_of(parts[1])
    return number_of(parts[0]), numbers_in(mark) if mark is not None else None


def stand_behind(steps, takings):
    """Tell whether each step is one of the takings, each one behind the one before it."""
    done = 0
    for taking in takings:
        if done < len(steps) and numbers_in(taking[:4]) == steps[done][:4] and plain_taking(taking) == steps[done]:
            done += 1
    return done == len(steps)
