"""All that a net tells, to hold nets against each other."""


def place_told(place):
    """All that is told of a place."""
    posts = [place.post(question[0]) for question in place.listed()[1]]
    return (place.at, place.levels.level(), place.levels.head(), place.clock.error(), place.clock.bound(),
            place.clock.in_time(), place.clock.chain(), place.store.left(), place.store.ledger(), place.listed(),
            [(post.held(), post.out(), post.made(), [post.taken(near) for near in range(10)]) for post in posts])


def net_told(net, many):
    """All that is told of a net but the hearings."""
    sensed = net.sensed()
    last = net.turns() - 1
    return {
        "turns": net.turns(), "living": net.living(), "cut": net.cut(), "speeches": net.speeches(),
        "meetings": net.meetings(), "sensed": sensed, "takings": net.takings(), "answers": net.answers(),
        "places": [place_told(net.place(at)) for at in range(many)],
        "items": [net.items_at(at) for at in range(many)],
        "rooms": [net.rooms(number, window, mark) for number, window, mark, _ in sensed],
        "holders": [net.holders(number) for number in range(1, 12)],
        "reasons": [net.reasons(*answer[:2]) for answer in net.answers()],
        "held": [net.held(first, last) for first in range(last + 1)],
    }


def all_told(net, many):
    """All that is told of a net, what its places took when they heard last among it."""
    return {**net_told(net, many), "hearings": net.hearings(), "took": [net.place(at).took() for at in range(many)]}
