"""Levels: how many steps a place is from the root, and by whom, as its neighbours tell."""

from listenfield.plain import number_of


class Levels:
    """What a place knows of its neighbours' levels, and its own."""

    def __init__(self, place, many):
        """Make what a place among so many knows at first."""
        self._place = number_of(place)
        self._many = number_of(many)
        self._level = 0 if self._place == 0 else self._many
        self._head = None
        # Of each neighbour that was heard: the turn in which the last was spoken, and the level if it is kept.
        self._spoken = {}
        self._kept = {}

    def level(self):
        """Tell its own level, as many as there are places where it is cut off."""
        return self._level

    def head(self):
        """Tell the neighbour it speaks to, None where there is none."""
        return self._head

    def hears(self, neighbour, level, turn):
        """Hear a neighbour's level, spoken in a turn."""
        near, now = number_of(neighbour), number_of(turn)
        if near in self._spoken and now <= self._spoken[near]:
            return
        self._spoken[near] = now
        self._kept[near] = number_of(level)

    def at_slot(self, turn, quiet):
        """Forget what is more than quiet turns ago, find the level anew, and tell of whom nothing is kept."""
        eldest = number_of(turn) - number_of(quiet)
        self._kept = {near: level for near, level in self._kept.items() if self._spoken[near] >= eldest}
        if self._place != 0:
            self._find()
        return [near for near in sorted(self._spoken) if near not in self._kept]

    def copied(self):
        """Tell levels that are alike and go on by themselves."""
        twin = Levels(self._place, self._many)
        twin._level = self._level
        twin._head = self._head
        twin._spoken = dict(self._spoken)
        twin._kept = dict(self._kept)
        return twin

    def _find(self):
        """Find the level and the head by the levels that are kept."""
        self._level, self._head = self._many, None
        if self._kept:
            least, near = min([(level, near) for near, level in self._kept.items()])
            if least + 1 < self._many:
                self._level, self._head = least + 1, near
