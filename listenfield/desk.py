"""Desks: rows of text are told to a net, and answered."""

from listenfield.errors import NoAnswer, NoRow
from listenfield.logs import LAST_NUMBER, Log, read_terms, writes_deed
from listenfield.plain import text_of
from listenfield.rows import NONE, read_within, show_row


class Desk:
    """A desk at which a net is told rows."""

    def __init__(self, text):
        """Make the desk of a new net, of a row that writes its terms."""
        self._terms = read_terms(text)
        self._log = Log(self._terms)

    def say(self, row):
        """Do a deed's row, or answer a question's."""
        return said(self._terms, self._log, row)


def said(terms, log, row):
    """Tell what a desk answers to a row, with a log of a net of some terms."""
    if writes_deed(row):
        told = log.do(row)
        return f"{told}" if told is not None else "ok"
    text = text_of(row)
    if text is None:
        raise NoRow()
    word, *words = text.split(" ")
    if word == "log" and not words:
        return log.text()
    return told_of_net(terms, log.field(), word, words)


def told_of_net(terms, net, word, words):
    """Tell what is asked of a net by a word and those behind it."""
    if word in OF_NETS and not words:
        show = OF_NETS[word]
        return show(net)
    if word in OF_PLACES and len(words) == 1:
        show = OF_PLACES[word]
        return show(terms, net.place(known(words[0], 0, terms.many() - 1)))
    if word in OF_ANSWERS and len(words) == 2:
        show = OF_ANSWERS[word]
        return show(net, known(words[0], 1, LAST_NUMBER), known(words[1], 0, LAST_NUMBER))
    if word == "held" and len(words) == 2:
        last = known(words[1], 0, net.turns() - 1)
        return "yes" if net.held(known(words[0], 0, last), last) else "no"
    raise NoRow()


def known(word, least, most):
    """Tell the number from least to most that a word writes."""
    number = read_within(word, least, most)
    if number is None:
        raise NoRow()
    return number


def answer_to(net, number, window):
    """Tell the answer for a question and window."""
    for answer in net.answers():
        if answer[:2] == (number, window):
            return answer
    raise NoAnswer(number, window)


def show_turns(net):
    """Tell how many turns were done."""
    return f"{net.turns()}"


def show_living(net):
    """Tell the living places."""
    return with_blanks([f"{place}" for place in net.living()])


def show_cut(net):
    """Tell the places that are cut off."""
    return with_blanks([f"{place}" for place in net.cut()])


def show_level(terms, place):
    """Tell a place's level."""
    level = place.levels.level()
    return f"{level}" if level < terms.many() else NONE


def show_head(_, place):
    """Tell a place's head."""
    return show_thing(place.levels.head())


def show_bound(_, place):
    """Tell how far a place's time may be from the root's."""
    return f"{place.clock.bound()}"


def show_left(_, place):
    """Tell what energy a place has left."""
    return show_thing(place.store.left())


def show_questions(_, place):
    """Tell the numbers of the questions that a place knows."""
    _, questions = place.listed()
    return with_blanks([f"{question[0]}" for question in questions])


def show_answer(net, number, window):
    """Tell an answer's figures and marks."""
    _, _, turn, marks, count, total, least, most, mean, _ = answer_to(net, number, window)
    words = [show_thing(figure) for figure in (turn, count, total, least, most)]
    share = f"{mean[0]}/{mean[1]}" if mean is not None else NONE
    return " ".join([*words, share]) + "; " + with_blanks([show_mark(mark) for mark in marks])


def show_lacks(net, number, window):
    """Tell what lacks in an answer, and the rooms of it."""
    lacks = answer_to(net, number, window)[-1]
    return with_blanks([f"{show_mark(mark)}:{show_row(rooms)}" for mark, rooms in lacks])


def show_reasons(net, number, window):
    """Tell why each mark that lacks in an answer does."""
    return with_blanks([f"{show_mark(mark)}:{word}" for mark, word in net.reasons(number, window)])


def show_mark(mark):
    """Write a mark."""
    place, turn = mark
    return f"{place}.{turn}"


def show_thing(thing):
    """Write a number, or that there is none."""
    return f"{thing}" if thing is not None else NONE


def with_blanks(words):
    """Write words with blanks between, or that there are none."""
    return " ".join(words) if words else "none"


OF_NETS = {"turns": show_turns, "living": show_living, "cut": show_cut}
OF_PLACES = {"level": show_level, "head": show_head, "bound": show_bound, "left": show_left,
             "questions": show_questions}
OF_ANSWERS = {"answer": show_answer, "lacks": show_lacks, "reasons": show_reasons}
