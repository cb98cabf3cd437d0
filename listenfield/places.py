"""Places: what each one of a net has, and what it does in a turn."""

from listenfield.clocks import Clock
from listenfield.items import item_of
from listenfield.levels import Levels
from listenfield.message import Message
from listenfield.plain import number_of
from listenfield.posts import Post
from listenfield.questions import NO_LIST, Asking, asks, newer_list, over, windows_of
from listenfield.stores import Store


class Place:
    """A place of a net."""

    def __init__(self, terms, at):
        """Make what a place of the terms is at first."""
        self._terms = terms
        self.at = number_of(at)
        self.clock = Clock(terms, self.at)
        self.store = Store(terms, self.at)
        self.levels = Levels(self.at, terms.many())
        self._asking = Asking() if self.at == 0 else None
        self._heard_list = NO_LIST
        self._posts = {}
        self._woken = None
        self._took = []

    def listed(self):
        """Tell the tuple (version, questions) that it knows."""
        return self._heard_list if self._asking is None else self._asking.listed()

    def asking(self):
        """Tell the root's asking itself, None of others."""
        return self._asking

    def post(self, number):
        """Tell the post of a question itself, None of what isn't in the list."""
        self._keep_posts()
        return self._posts.get(number_of(number))

    def turn_more(self):
        """Let its time go on by a turn."""
        self.clock.turn_more()

    def wakes(self, turn):
        """Tell whether it wakes in a turn, and pay for it."""
        woken = self.store.wakes(turn, self.clock.in_time())
        self._woken = number_of(turn) if woken else None
        return woken

    def sense(self, turn, sort, reading):
        """Sense a reading of a sort in a turn, and tell the items made of it."""
        if not self._is_up(turn):
            return []
        _, questions = self.listed()
        asked = [question for question in questions if question[1] == number_of(sort) and asks(question, self.at)]
        made = []
        for question in asked:
            for window in windows_of(question, turn):
                made.append(item_of(question[0], window, self.at, turn, reading))
        for item in made:
            self.post(item[0]).put(item)
        return made

    def speaks(self, turn):
        """Make up what it speaks in a turn, pay for it, and tell the message, None where it is silent."""
        if not self._is_up(turn):
            return None
        forgotten = self.levels.at_slot(turn, self._terms.quiet)
        self._keep_posts()
        # The root has no head, so its posts make up nothing.
        for post in self._posts.values():
            post.make_up(self.levels.head(), forgotten)
        parcels = [(number, post.out()) for number, post in self._posts.items() if post.out() is not None]
        if not self.store.speaks(turn, sum([len(parcel[2]) for _, parcel in parcels])):
            return None
        level, taken = self.levels.level(), self._told_taken()
        return Message(turn, self.at, self.clock.copied(), level, self.listed(), taken, tuple(parcels))

    def hears(self, message, turn, j, *, first=True):
        """Hear a message in a turn, and tell whether it was a meeting of clocks."""
        met = False
        if first and message.turn == number_of(turn):
            met = self.clock.hears(message.clock, turn, j)
        self.levels.hears(message.speaker, message.told_level, message.turn)
        self._heard_list = newer_list(self._heard_list, message.told_list)
        self._keep_posts()
        taken, parcels = message.taken_from(self.at), message.parcels_to(self.at)
        self._took = []
        for number, post in self._posts.items():
            post.hears_taken(message.speaker, taken.get(number, 0))
            if number in parcels and post.handed(message.speaker, parcels[number]):
                self._took.append((number, parcels[number]))
        return met

    def took(self):
        """Tell the parcels (number, parcel) that it took when it heard last."""
        return list(self._took)

    def lets_go(self, turn):
        """Let go of all windows that are over in a turn."""
        if not self._is_up(turn):
            return
        _, questions = self.listed()
        for question in questions:
            post, many = self.post(question[0]), over(question, turn)
            post.let_go([item[1] for item in post.stock() if item[1] < many])

    def has_mark(self, number, window, mark):
        """Tell whether it has an item of a question and window with a mark."""
        post = self.post(number)
        return post is not None and any([mark in item[2] for item in post.in_window(window)])

    def copied(self):
        """Tell a place that is alike and goes on by itself."""
        twin = Place(self._terms, self.at)
        twin.clock = self.clock.copied()
        twin.store = self.store.copied()
        twin.levels = self.levels.copied()
        twin._asking = self._asking.copied() if self._asking is not None else None
        twin._heard_list = self._heard_list
        twin._posts = {number: post.copied() for number, post in self._posts.items()}
        twin._woken = self._woken
        twin._took = list(self._took)
        return twin

    def _is_up(self, turn):
        """Tell whether it was woken in a turn, and is in time."""
        return self._woken == number_of(turn) and self.clock.in_time()

    def _keep_posts(self):
        """Keep a post for each question of the list, by number, and let go of all others."""
        _, questions = self.listed()
        kept = {}
        for number, *_ in questions:
            kept[number] = self._posts[number] if number in self._posts else Post(self.at, number)
        self._posts = kept

    def _told_taken(self):
        """Tell by questions the numbers above 0 that were taken, and of whom."""
        rows = []
        for number, post in self._posts.items():
            taken = [(near, post.taken(near)) for near in self._terms.web.neighbours(self.at)]
            rows = rows + [(number, near, many) for near, many in taken if many > 0]
        return tuple(rows)
