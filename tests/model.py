"""A field of places that goes on as point 43 words it: what nets are held against."""

from listenfield.answers import answer_of
from listenfield.places import Place
from listenfield.questions import closing
from listenfield.tracks import reason_of


class Model:
    """Places, and what comes of them, turn by turn; the weather is taken to fit."""

    def __init__(self, terms):
        self.terms = terms
        self.web = terms.web
        self.places = [Place(terms, at) for at in range(terms.many())]
        self.turn = 0
        self.died = {}
        self.waiting = []
        self.speeches, self.hearings, self.meetings, self.sensed, self.takings = [], [], [], [], []
        self.answers, self.reasons, self.timely = [], {}, []

    def asking(self):
        """The root's asking."""
        return self.places[0].asking()

    def living(self):
        """The living places."""
        return [at for at in range(self.terms.many()) if at not in self.died]

    def items_at(self, at):
        """All items of a place, twice those that are held and in a parcel."""
        found = []
        for question in self.places[at].listed()[1]:
            post = self.places[at].post(question[0])
            found += post.held()
            if post.out():
                found += post.out()[2]
        return sorted(found)

    def rooms(self, number, window, mark):
        """The places that have a mark."""
        return [at for at in range(self.terms.many())
                if any(item[:2] == (number, window) and mark in item[2] for item in self.items_at(at))]

    def step(self, weather):
        """Do a turn."""
        turn = self.turn
        for at in weather.dead:
            self.died.setdefault(at, turn)
        if turn > 0:
            for at in self.living()[1:]:
                self.places[at].turn_more()
        awake = [at for at in self.living() if self.places[at].wakes(turn)]
        self.hear_what_is_due(awake)
        for at, sort, reading in sorted(weather.senses):
            if at in awake:
                for item in self.places[at].sense(turn, sort, reading):
                    self.sensed.append((item[0], item[1], item[2][0], reading))
        for slot in range(self.terms.slots_many()):
            for at in self.living():
                if self.web.slots()[at] == slot:
                    self.come_to_slot(at, slot, awake, weather)
        self.answer()
        for at in awake:
            self.places[at].lets_go(turn)
        self.turn += 1

    def hear_what_is_due(self, awake):
        """Let what is due be heard, in the order in which it was spoken."""
        due = sorted([row for row in self.waiting if row[0] == self.turn], key=lambda row: row[1:5])
        for _, spoken, _, speaker, hearer, message in due:
            if hearer in awake:
                self.hear(speaker, hearer, message, 0)

    def come_to_slot(self, at, slot, awake, weather):
        """Let a place speak, if it does."""
        turn, width, guard = self.turn, self.terms.width(), self.terms.guard
        if self.places[at].clock.in_time():
            self.timely.append((turn, at))
        if at not in awake:
            return
        message = self.places[at].speaks(turn)
        if message is None:
            return
        begin = 10 ** 6 * turn + width * slot + guard - self.places[at].clock.error()
        self.speeches.append((turn, at, begin, begin + width - 2 * guard))
        late = [row for row in weather.late if row[0] == at]
        doubled = [row for row in weather.doubled if row[0] == at]
        for near in self.web.neighbours(at):
            shifts = [shift for speaker, hearer, shift in weather.jitters if (speaker, hearer) == (at, near)]
            held_up = [more for _, hearer, more in late if hearer == near]
            again = [more for _, hearer, more in doubled if hearer == near]
            if (at, near) in weather.lost:
                continue
            if held_up:
                self.waiting.append((turn + held_up[0], turn, slot, at, near, message))
            elif near in awake:
                self.hear(at, near, message, shifts[0] if shifts else 0)
                if again:
                    self.waiting.append((turn + again[0], turn, slot, at, near, message))

    def hear(self, speaker, hearer, message, j):
        """Let a place hear a message."""
        if self.places[hearer].hears(message, self.turn, j):
            self.meetings.append((self.turn, speaker, hearer))
        self.hearings.append((self.turn, speaker, hearer, message.turn))
        for number, parcel in self.places[hearer].took():
            bits = sorted({(item[1], mark) for item in parcel[2] for mark in item[2]})
            self.takings.append((self.turn, speaker, hearer, number, tuple(bits)))

    def answer(self):
        """Let the root answer what closes."""
        for question in self.places[0].listed()[1]:
            for window in closing(question, self.turn):
                number = question[0]
                marks = [mark for told, of, mark, _ in self.sensed if (told, of) == (number, window)]
                rooms = {mark: tuple(self.rooms(number, window, mark)) for mark in marks}
                held = [item for item in self.items_at(0) if item[:2] == (number, window)]
                answer = answer_of(number, window, self.turn, held, rooms)
                self.answers.append(answer)
                self.reasons[(number, window)] = [(mark, reason_of(self.web, self.living(), told))
                                                  for mark, told in answer[9]]
