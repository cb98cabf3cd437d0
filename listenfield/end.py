"""The end that keeps no state: one answer of a text and a row."""

from listenfield.desk import said
from listenfield.errors import NoLog, NoText
from listenfield.logs import come_up, read_terms
from listenfield.plain import text_of


def answered(text, row):
    """Tell what a desk answers to a row that was told all rows of a text, the first one its terms."""
    first, feed, rest = text_of(text).partition("\n")
    # Signs without a line feed behind them are no row.
    if feed == "":
        raise NoLog(0)
    try:
        terms = read_terms(first)
        log = come_up(terms, rest)
    except NoText:
        raise NoLog(0) from None
    except NoLog as e:
        raise NoLog(e.at + 1) from None
    return said(terms, log, row)
