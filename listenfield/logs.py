"""Logs: a net's deeds and its terms as rows of text, and nets that come up of them."""

from listenfield.errors import FieldError, NoLog, NoText
from listenfield.net import Net
from listenfield.plain import number_of, text_of
from listenfield.rows import (NONE, read_number, read_question, read_row, read_weather, read_within, show_question,
                              show_row, show_weather)
from listenfield.terms import Terms
from listenfield.webs import Web

LAST_NUMBER = 10 ** 9
FIGURES = ("quiet", "drift", "jitter", "guard", "listen", "speak", "item")


class Log:
    """A net, and the rows of the deeds that were done to it."""

    def __init__(self, terms):
        """Make the log of a net that has done nothing."""
        self._net = Net(terms)
        self._rows = []

    def net(self):
        """Tell a copy of the net."""
        return self._net.copied()

    def field(self):
        """Tell the net itself, for those who ask it alone: a copy for each question takes its time."""
        return self._net

    def do(self, row):
        """Do the deed that a row writes, and tell what it tells."""
        told = self._deed(read_deed(row))
        self._rows.append(text_of(row))
        return told

    def text(self):
        """Tell the rows of all that was done, a line feed behind each."""
        return "".join([f"{row}\n" for row in self._rows])

    def _deed(self, deed):
        """Do a deed, and tell what it tells."""
        word, *rest = deed
        if word == "ask":
            return self._net.ask(rest[0])
        if word == "change":
            return self._net.change(rest[0], rest[1])
        if word == "end":
            return self._net.end(rest[0])
        return self._net.step(rest[0])


def come_up(terms, text):
    """Tell the log of a net of terms that did all rows of a text."""
    *rows, rest = text_of(text).split("\n")
    for at, row in enumerate(rows):
        if not writes_deed(row):
            raise NoLog(at)
    if rest != "":
        raise NoLog(len(rows))
    log = Log(terms)
    for at, row in enumerate(rows):
        try:
            log.do(row)
        except FieldError:
            raise NoLog(at) from None
    return log


def show_deed(deed):
    """Write a deed as a row."""
    word, *rest = deed
    words = [text_of(word)]
    if words == ["turn"]:
        return " ".join(words + show_weather(rest[0]))
    if words != ["ask"]:
        words = [*words, f"{number_of(rest[0])}"]
    if words[0] != "end":
        words = words + show_question(rest[-1])
    return " ".join(words)


def read_deed(text):
    """Tell the deed that a row writes."""
    row = text_of(text)
    deed = deed_in(row.split(" ")) if row is not None else None
    # What is written in any other way than a deed is, by things twice or in another order, writes none.
    if deed is None or show_deed(deed) != row:
        raise NoText()
    return deed


def writes_deed(row):
    """Tell whether a row writes a deed."""
    try:
        read_deed(row)
    except NoText:
        return False
    return True


def deed_in(words):
    """Tell the deed that words write, perhaps in another way than it is written, None of all else."""
    word, *rest = words
    if word == "turn":
        weather = read_weather(rest)
        return (word, weather) if weather is not None else None
    if word == "ask":
        terms_of = read_question(rest)
        return (word, terms_of) if terms_of is not None else None
    if word not in ("end", "change") or not rest:
        return None
    number = read_within(rest[0], 1, LAST_NUMBER)
    terms_of = read_question(rest[1:])
    if number is None or word == "change" and terms_of is None:
        return None
    return (word, number) if word == "end" else (word, number, terms_of)


def show_terms(terms):
    """Write terms as a row."""
    pairs = [show_row(pair) for pair in terms.web.pairs()]
    words = ["places", f"{terms.many()}", "pairs", *pairs]
    if not pairs:
        words = [*words, NONE]
    figures = (terms.quiet, terms.drift, terms.jitter, terms.guard, terms.listen, terms.speak, terms.item)
    for name, figure in zip(FIGURES, figures):
        words = [*words, name, f"{figure}"]
    # A plan has no commas: it may stand among the numbers.
    places = [show_row(terms.place(at)) for at in range(1, terms.many())]
    return " ".join(words + places)


def read_terms(text):
    """Tell the terms that a row writes."""
    row = text_of(text)
    terms = terms_in(row.split(" ")) if row is not None else None
    if terms is None or show_terms(terms) != row:
        raise NoText()
    return terms


def terms_in(words):
    """Tell the terms that words write, perhaps in another way than they are written, None of all else."""
    if FIGURES[0] not in words[3:]:
        return None
    begin = 3 + words[3:].index(FIGURES[0])
    end = begin + 2 * len(FIGURES)
    figures = [read_number(word) for word in words[begin + 1:end:2]]
    if len(figures) < len(FIGURES):
        return None
    quiet, drift, jitter, guard, listen, speak, item = figures
    pairs = [read_row(word) for word in words[3:begin] if word != NONE]
    places = [place_in(word) for word in words[end:]]
    try:
        web = Web(read_number(words[1]), pairs)
        return Terms(web, places, quiet=quiet, drift=drift, jitter=jitter, guard=guard, listen=listen, speak=speak,
                     item=item)
    except FieldError:
        return None


def place_in(word):
    """Tell the tuple of a place that a word writes, its numbers None where they are none."""
    *numbers, plan = word.split(",")
    figures = [read_number(number) for number in numbers]
    return (*figures, plan)
