"""Rows of text: numbers, lists of such, a question's terms and a weather as words."""

from listenfield.errors import Wrong
from listenfield.questions import are_terms, plain_terms
from listenfield.weather import Weather

# No number of a row has more signs: none is greater than 10 ** 9.
LONGEST_NUMBER = 11
# The word for all places, for no pairs, for None.
NONE = "-"
WEATHER_WORDS = ("dead", "senses", "lost", "late", "doubled", "jitters")


def read_number(word):
    """Tell the whole number that a word writes, None of all else."""
    if len(word) > LONGEST_NUMBER:
        return None
    try:
        number = int(word)
    except ValueError:
        return None
    # Python reads more than is written here: noughts ahead, blanks around, other figures.
    return number if f"{number}" == word else None


def read_within(word, least, most):
    """Tell the whole number from least to most that a word writes, None of all else."""
    number = read_number(word)
    return number if number is not None and least <= number <= most else None


def read_row(word):
    """Tell the tuple of whole numbers that a word writes with commas, None of all else."""
    numbers = [read_number(part) for part in word.split(",")]
    return tuple(numbers) if None not in numbers else None


def show_row(numbers):
    """Write whole numbers with commas."""
    return ",".join([f"{number}" for number in numbers])


def read_question(words):
    """Tell the terms of a question that words write, None of all else."""
    if len(words) < 2:
        return None
    sort, places, *rest = words
    asked = read_row(places)
    if places != NONE and asked is None:
        return None
    figures = [read_number(word) for word in rest]
    terms_of = (read_number(sort), asked, *figures)
    return terms_of if are_terms(terms_of) else None


def show_question(terms_of):
    """Write the terms of a question as words."""
    sort, places, *rest = plain_terms(terms_of)
    asked = show_row(places) if places is not None else NONE
    figures = [f"{number}" for number in rest]
    return [f"{sort}", asked, *figures]


def read_weather(words):
    """Tell the weather that words write, perhaps with things twice or in another order, None of all else."""
    lists = {each: [] for each in WEATHER_WORDS}
    name = ""
    for word in words:
        if word in lists:
            name = word
        elif name == "":
            return None
        else:
            lists[name].append(read_number(word) if name == "dead" else read_row(word))
    dead, senses, lost, late, doubled, jitters = [lists[each] for each in WEATHER_WORDS]
    try:
        return Weather(dead=dead, senses=senses, lost=lost, late=late, doubled=doubled, jitters=jitters)
    except Wrong:
        return None


def show_weather(weather):
    """Write a weather as words, each thing once, rising."""
    dead = [(place,) for place in weather.dead]
    lists = (dead, weather.senses, weather.lost, weather.late, weather.doubled, weather.jitters)
    words = []
    for name, things in zip(WEATHER_WORDS, lists):
        if things:
            shown = [show_row(thing) for thing in sorted(set(things))]
            words = [*words, name, *shown]
    return words
