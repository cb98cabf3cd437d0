"""Nets: places that go on together, turn by turn, and what is told of them."""

from listenfield.answers import answer_of
from listenfield.errors import NoAnswer, Unfit
from listenfield.items import rank
from listenfield.places import Place
from listenfield.plain import number_of, numbers_in
from listenfield.questions import closing
from listenfield.terms import TURN_UNITS
from listenfield.tracks import bits_of, reason_of
from listenfield.watch import is_held
from listenfield.weather import fits


class Net:
    """A net of places, of some terms."""

    def __init__(self, terms):
        """Make a net that has done no turn."""
        self._terms = terms
        self._places = [Place(terms, at) for at in range(terms.many())]
        # Of each place the turn in which it died.
        self._died = [None] * terms.many()
        self._done = 0
        # What is heard later: tuples (turn, hearer, message), in the order in which they were spoken.
        self._due = []
        self._speeches = []
        self._hearings = []
        self._meetings = []
        self._sensed = []
        self._takings = []
        self._answers = []
        # Those in time at their slot: tuples (turn, place).
        self._timely = []
        # By question and window: the marks that were sensed, and of an answer why each mark lacked.
        self._marks = {}
        self._reasons = {}

    def step(self, weather):
        """Do the next turn in a weather."""
        if not fits(weather, self._terms):
            raise Unfit()
        turn = self._done
        self._die(weather.dead, turn)
        living = self.living()
        for at in living:
            if turn > 0:
                self._places[at].turn_more()
        awake = [at for at in living if self._places[at].wakes(turn)]
        self._hear_due(awake, turn)
        self._sense(sorted(weather.senses), turn)
        self._speak(living, awake, weather, turn)
        self._close(turn)
        for at in awake:
            self._places[at].lets_go(turn)
        self._done += 1

    def ask(self, terms_of):
        """Ask a question ahead of the next turn, and tell its number."""
        return self._places[0].asking().ask(terms_of, self._done)

    def end(self, number):
        """End a question ahead of the next turn."""
        self._places[0].asking().end(number)

    def change(self, number, terms_of):
        """End a question, ask anew, and tell the new number."""
        return self._places[0].asking().change(number, terms_of, self._done)

    def turns(self):
        """Tell how many turns were done."""
        return self._done

    def living(self):
        """Tell the living places, rising."""
        return [at for at, died in enumerate(self._died) if died is None]

    def cut(self):
        """Tell the living places without a living road, rising."""
        return self._terms.web.cut(self.living())

    def speeches(self):
        """Tell the tuples (turn, place, begin, end) of all that was spoken, in the root's time."""
        return list(self._speeches)

    def hearings(self):
        """Tell the tuples (turn, speaker, hearer, spoken) of all that was heard."""
        return list(self._hearings)

    def meetings(self):
        """Tell the tuples (turn, speaker, hearer) of all meetings of clocks."""
        return list(self._meetings)

    def sensed(self):
        """Tell the tuples (question, window, mark, reading) of all that was sensed."""
        return list(self._sensed)

    def takings(self):
        """Tell the tuples (turn, speaker, hearer, number, bits) of all parcels that were taken."""
        return list(self._takings)

    def answers(self):
        """Tell the answers, in the order in which they were told."""
        return list(self._answers)

    def reasons(self, number, window):
        """Tell of an answer a tuple (mark, word) for each mark that lacks, as it was at the closing."""
        key = (number_of(number), number_of(window))
        if key not in self._reasons:
            raise NoAnswer(number, window)
        return list(self._reasons[key])

    def place(self, at):
        """Tell a copy of a place."""
        return self._places[number_of(at)].copied()

    def items_at(self, place):
        """Tell the items of a place, held ones and those in its parcels, sorted."""
        known = self._places[number_of(place)]
        _, questions = known.listed()
        return sorted([item for question in questions for item in known.post(question[0]).stock()], key=rank)

    def rooms(self, number, window, mark):
        """Tell the places, rising, that have a mark in an item."""
        known, told = number_of(window), numbers_in(mark)
        return [place.at for place in self._places if place.has_mark(number, known, told)]

    def holders(self, number):
        """Tell the places, rising, that have a question: whoever has an item of it has it in its list, too."""
        return [place.at for place in self._places if place.post(number) is not None]

    def held(self, first, last):
        """Tell whether the bound of loss was held from a turn to another one."""
        one, other = number_of(first), number_of(last)
        if any([died is not None and one <= died <= other for died in self._died]):
            return False
        living = [at for at, died in enumerate(self._died) if died is None or died > other]
        timely = [row for row in self._timely if one <= row[0] <= other]
        hearings = [row for row in self._hearings if one <= row[0] <= other]
        return is_held(self._terms, living, timely, hearings, one, other)

    def copied(self):
        """Tell a net that is alike and goes on by itself."""
        twin = Net(self._terms)
        twin._places = [place.copied() for place in self._places]
        twin._died = list(self._died)
        twin._done = self._done
        twin._due = list(self._due)
        twin._speeches = list(self._speeches)
        twin._hearings = list(self._hearings)
        twin._meetings = list(self._meetings)
        twin._sensed = list(self._sensed)
        twin._takings = list(self._takings)
        twin._answers = list(self._answers)
        twin._timely = list(self._timely)
        twin._marks = {key: list(marks) for key, marks in self._marks.items()}
        twin._reasons = {key: list(rows) for key, rows in self._reasons.items()}
        return twin

    def _die(self, dead, turn):
        """Let places die, for ever."""
        for at in dead:
            if self._died[at] is None:
                self._died[at] = turn

    def _hear_due(self, awake, turn):
        """Let what is due in a turn be heard by those who are awake."""
        due = [row for row in self._due if row[0] == turn]
        self._due = [row for row in self._due if row[0] != turn]
        for _, hearer, message in due:
            if hearer in awake:
                self._hear(hearer, message, turn, 0)

    def _sense(self, senses, turn):
        """Let the places sense what is told for them; who wasn't woken in this turn senses nothing."""
        for at, sort, reading in senses:
            for number, window, (mark,), total, *_ in self._places[at].sense(turn, sort, reading):
                self._sensed.append((number, window, mark, total))
                self._marks.setdefault((number, window), []).append(mark)

    def _speak(self, living, awake, weather, turn):
        """Let the places speak, slot by slot, and their neighbours hear."""
        slots = self._terms.web.slots()
        later = [by_pair(rows) for rows in (weather.late, weather.doubled, weather.jitters)]
        for slot, at in sorted([(slots[at], at) for at in living]):
            place = self._places[at]
            if place.clock.in_time():
                self._timely.append((turn, at))
            message = place.speaks(turn)
            if message is not None:
                self._speeches.append(self._speech(turn, at, slot, place.clock.error()))
                hearers = [near for near in self._terms.web.neighbours(at) if (at, near) not in weather.lost]
                self._spread(message, hearers, awake, later)

    def _speech(self, turn, at, slot, error):
        """Tell when a place speaks, in the root's time, whose own time is ahead by an error."""
        width, guard = self._terms.width(), self._terms.guard
        begin = TURN_UNITS * turn + width * slot + guard - error
        return turn, at, begin, begin + width - 2 * guard

    def _spread(self, message, hearers, awake, later):
        """Let those who are awake among some hear a message, at once or later."""
        late, doubled, jitters = later
        turn = message.turn
        for near in hearers:
            pair = (message.speaker, near)
            if pair in late:
                self._due.append((turn + late[pair], near, message))
            elif near in awake:
                self._hear(near, message, turn, jitters.get(pair, 0))
                if pair in doubled:
                    self._due.append((turn + doubled[pair], near, message))

    def _hear(self, hearer, message, turn, j):
        """Let a place hear a message, and note what comes of it."""
        place, speaker = self._places[hearer], message.speaker
        met = place.hears(message, turn, j)
        self._hearings.append((turn, speaker, hearer, message.turn))
        if met:
            self._meetings.append((turn, speaker, hearer))
        for number, (_, _, items) in place.took():
            self._takings.append((turn, speaker, hearer, number, bits_of(items)))

    def _close(self, turn):
        """Let the root answer each window that closes in a turn."""
        _, questions = self._places[0].listed()
        for question in questions:
            for window in closing(question, turn):
                self._answer(question[0], window, turn)

    def _answer(self, number, window, turn):
        """Let the root answer a window, and note why each mark lacked."""
        held = self._places[0].post(number).in_window(window)
        marks = self._marks.get((number, window), [])
        rooms = {mark: tuple(self.rooms(number, window, mark)) for mark in marks}
        answer = answer_of(number, window, turn, held, rooms)
        self._answers.append(answer)
        web, living = self._terms.web, self.living()
        self._reasons[(number, window)] = [(mark, reason_of(web, living, told)) for mark, told in answer[-1]]


def by_pair(rows):
    """Tell by (speaker, hearer) the number of each row."""
    return {(speaker, hearer): number for speaker, hearer, number in rows}
