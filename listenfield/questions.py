"""Questions: whom they ask, their windows by turns, and the root's asking."""

from listenfield.errors import NoNumber, TooMany, Wrong
from listenfield.kinds import is_from, is_sort, is_turn, is_within, rising_places
from listenfield.plain import number_of, numbers_in, tuple_of

MOST_LIVING = 4
MOST_EVERY = 20
LONGEST_WINDOW = 8
LONGEST_LAG = 200
TERMS_PARTS = 6
# What a place has been told of questions at first: a version and no questions.
NO_LIST = (0, ())


class Asking:
    """The root's asking: the questions that live, and how often they changed."""

    def __init__(self):
        """Make an asking without questions."""
        self._version, self._questions = NO_LIST
        self._asked = 0

    def version(self):
        """Tell how many deeds were done."""
        return self._version

    def listed(self):
        """Tell the tuple (version, questions)."""
        return self._version, self._questions

    def ask(self, terms_of, turn):
        """Ask a question, and tell its number."""
        if len(self._questions) >= MOST_LIVING:
            raise TooMany(MOST_LIVING)
        return self._ask_beside(self._questions, terms_of, turn)

    def end(self, number):
        """End the question of a number."""
        self._questions = self._without(number)
        self._version += 1

    def change(self, number, terms_of, turn):
        """End the question of a number, ask anew, and tell the new number."""
        return self._ask_beside(self._without(number), terms_of, turn)

    def copied(self):
        """Tell an asking that is alike and goes on by itself."""
        twin = Asking()
        twin._version = self._version
        twin._questions = self._questions
        twin._asked = self._asked
        return twin

    def _without(self, number):
        """Tell the questions that live but that of a number."""
        known = number_of(number)
        rest = tuple([question for question in self._questions if question[0] != known])
        if len(rest) == len(self._questions):
            raise NoNumber(number)
        return rest

    def _ask_beside(self, others, terms_of, turn):
        """Ask a question that lives beside others from then on, and tell its number."""
        terms = plain_terms(terms_of)
        if terms[2] < number_of(turn):
            raise Wrong(0)
        self._asked += 1
        self._version += 1
        self._questions = (*others, (self._asked, *terms))
        return self._asked


def is_question(thing):
    """Tell whether it is a question."""
    parts = tuple_of(thing)
    return bool(parts) and is_from(parts[0], 1) and are_terms(parts[1:])


def asks(question, place):
    """Tell whether a question asks a place."""
    _, _, places, *_ = plain_question(question)
    return places is None or number_of(place) in places


def windows_of(question, turn):
    """Tell the windows that have a turn, rising."""
    _, _, _, first, every, length, _ = plain_question(question)
    ahead = number_of(turn) - first
    begun = ahead // every + 1
    # Those that began length turns ago, or more, have ended.
    ended = max(0, (ahead - length) // every + 1)
    return list(range(ended, begun))


def closes(question, window):
    """Tell the turn in which a window closes."""
    _, _, _, first, every, length, lag = plain_question(question)
    return first + number_of(window) * every + length - 1 + lag


def closing(question, turn):
    """Tell the windows that close in a turn, rising: one at most."""
    window, rest = since_closing(question, turn)
    return [window] if window >= 0 and rest == 0 else []


def over(question, turn):
    """Tell how many windows are over in a turn: from 0 to so many less one."""
    window, _ = since_closing(question, turn)
    return max(0, window + 1)


def since_closing(question, turn):
    """Tell the last window that has closed by a turn, below 0 where none has, and how many turns ago that was."""
    _, _, _, _, every, _, _ = plain_question(question)
    return divmod(number_of(turn) - closes(question, 0), every)


def newer_list(own, other):
    """Tell the list that a place has behind hearing another one: its own, unless the other's version is greater."""
    return other if other[0] > own[0] else own


def plain_question(question):
    """Tell a question in Python's own kinds."""
    number, *terms_of = question
    terms = plain_terms(terms_of)
    return (number_of(number), *terms)


def plain_terms(terms_of):
    """Tell a question's terms, all but its number, in Python's own kinds."""
    sort, places, first, every, length, lag = terms_of
    asked = numbers_in(places) if places is not None else None
    return number_of(sort), asked, number_of(first), number_of(every), number_of(length), number_of(lag)


def plain_list(told):
    """Tell a list of questions with its version in Python's own kinds."""
    version, questions = told
    return number_of(version), tuple([plain_question(question) for question in questions])


def are_terms(thing):
    """Tell of whatever is handed in whether it is a question's terms, all but its number."""
    parts = tuple_of(thing)
    if parts is None or len(parts) != TERMS_PARTS:
        return False
    sort, places, first, every, length, lag = parts
    if not is_sort(sort) or not is_turn(first) or not is_within(every, 1, MOST_EVERY):
        return False
    # None asks all places; no places at all is no question.
    if places is not None and not rising_places(places):
        return False
    longest = min(LONGEST_WINDOW, 2 * number_of(every))
    return is_within(length, 1, longest) and is_within(lag, 0, LONGEST_LAG)
