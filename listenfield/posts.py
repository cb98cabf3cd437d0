"""Posts: what a place has of one question, and how it is brought from place to place."""

from listenfield.items import is_within_item, loosened, merge, plain_item, rank
from listenfield.plain import number_of


class Post:
    """What a place has of one question."""

    def __init__(self, place, number):
        """Make the post that a place has at first of the question of a number."""
        self._place = number_of(place)
        self._number = number_of(number)
        # By windows, for only items of one window lie within each other; of each one by marks.
        self._held = {}
        self._out = None
        self._made = 0
        self._taken = {}

    def held(self):
        """Tell the items that are held, by windows, then marks."""
        return [item for window in sorted(self._held) for item in self._held[window]]

    def out(self):
        """Tell the parcel (number, to, items) that is out, or None."""
        return self._out

    def made(self):
        """Tell how many parcels were made."""
        return self._made

    def stock(self):
        """Tell all items that it has, held ones and those in its parcel; one that is both stands twice."""
        return self.held() + list(self._sent())

    def in_window(self, window):
        """Tell all items of a window that it has."""
        return self._held.get(window, []) + [item for item in self._sent() if item[1] == window]

    def taken(self, neighbour):
        """Tell the number of the last parcel that was taken from a neighbour, 0 of all others."""
        return self._taken.get(number_of(neighbour), 0)

    def put(self, item):
        """Let an item come into what is held."""
        self._come([plain_item(item)])

    def make_up(self, head, forgotten):
        """Take back what is out to one that is forgotten, and make up a parcel to the head."""
        if self._out is not None and self._out[1] in [number_of(place) for place in forgotten]:
            _, _, items = self._out
            self._out = None
            self._come([loosened(item) for item in items])
        if self._out is None and head is not None and self._held:
            self._made += 1
            items = [item for window in sorted(self._held) for item in packed(self._held[window])]
            self._out = (self._made, number_of(head), tuple(items))
            self._held = {}

    def hears_taken(self, speaker, number):
        """Hear that a speaker has taken the parcel of a number from it."""
        if self._out is not None:
            own, to, _ = self._out
            if to == number_of(speaker) and own <= number_of(number):
                self._out = None

    def handed(self, speaker, parcel):
        """Be handed a parcel that goes to it, and tell whether it is taken."""
        number, _, items = parcel
        if number_of(number) <= self.taken(speaker):
            return False
        self._taken[number_of(speaker)] = number_of(number)
        self._come([plain_item(item) for item in items])
        return True

    def let_go(self, windows):
        """Let go of all that is held, or out, of some windows."""
        gone = [number_of(window) for window in windows]
        self._held = {window: items for window, items in self._held.items() if window not in gone}
        if self._out is not None:
            own, to, items = self._out
            rest = tuple([item for item in items if item[1] not in gone])
            self._out = (own, to, rest) if rest else None

    def copied(self):
        """Tell a post that is alike and goes on by itself."""
        twin = Post(self._place, self._number)
        twin._held = {window: list(items) for window, items in self._held.items()}
        twin._out = self._out
        twin._made = self._made
        twin._taken = dict(self._taken)
        return twin

    def _sent(self):
        """Tell the items in the parcel that is out."""
        return self._out[2] if self._out is not None else ()

    def _come(self, items):
        """Let plain items come into what is held, one by one."""
        for item in items:
            self._held[item[1]] = with_item(self._held.get(item[1], []), item)


def plain_parcel(parcel):
    """Tell a parcel in Python's own kinds."""
    number, to, items = parcel
    return number_of(number), number_of(to), tuple([plain_item(item) for item in items])


def with_item(held, item):
    """Tell what is held of a window behind an item of it that comes: none within another one."""
    around = [other for other in held if is_within_item(item, other)]
    # Of two with the same marks the loose one goes, of two alike the one that comes.
    if any([other[2] != item[2] or item[6] or not other[6] for other in around]):
        return held
    rest = [other for other in held if not is_within_item(other, item)]
    return sorted([*rest, item], key=rank)


def packed(held):
    """Tell what a parcel has of what is held of a window: all that isn't loose as one, and each loose one."""
    loose = [item for item in held if item[6]]
    tight = [item for item in held if not item[6]]
    return sorted([*loose, merge(tight)], key=rank) if tight else loose
