"""Deeds, rows and texts that the tests of nets, logs, desks and the end share."""

import random

from fields import random_question, random_terms, random_weather, row_terms
from listenfield.logs import show_terms
from things import Like, Other, strange_things

STRANGE = [thing for thing in strange_things() if not isinstance(thing, str)] + [Other(), Like(), 5, b"turn", ["turn"]]
DEEDS = [
    ("ask 0 - 0 1 1 0", ("ask", (0, None, 0, 1, 1, 0))),
    ("ask 9 0 1000000 20 8 200", ("ask", (9, (0,), 10 ** 6, 20, 8, 200))),
    ("ask 3 0,2,9 17 5 3 20", ("ask", (3, (0, 2, 9), 17, 5, 3, 20))),
    ("ask 3 0,1,2,3,4,5,6,7,8,9 17 1 2 20", ("ask", (3, tuple(range(10)), 17, 1, 2, 20))),
    ("end 1", ("end", 1)),
    ("end 1000000000", ("end", 10 ** 9)),
    ("change 7 0 - 0 1 1 0", ("change", 7, (0, None, 0, 1, 1, 0))),
    ("change 1000000000 3 4,5 17 5 3 20", ("change", 10 ** 9, (3, (4, 5), 17, 5, 3, 20))),
]
TERMS = ("places 3 pairs 0,1 1,2 quiet 2 drift 1 jitter 3 guard 40 listen 4 speak 5 item 6 "
         "-1,3,9,1000,w 1,-2,2,0,wsswswsw")
ROW = show_terms(row_terms(4, quiet=3, drift=1, guard=40, listen=1, energy=1000))
QUESTIONS = ["turns", "living", "level 1", "head 1", "bound 1", "left 1", "questions 1", "answer 1 0", "lacks 1 0",
             "reasons 1 0", "cut", "held 0 0", "log"]


class Deeds:
    """Deeds by a seed, which a net is told: a list of tuples, turns among them."""

    def __init__(self, seed, *, turns=40, poor=False, terms=None, rough=None, death=None, lags=(0, 3, 10, 30, 60)):
        rng = random.Random(seed)
        self.terms = terms or random_terms(rng, poor=poor)
        many = self.terms.many()
        rough = rng.choice((0, 0.05, 0.15, 0.3)) if rough is None else rough
        death = rng.choice((0, 0, 0.005, 0.02)) if death is None else death
        self.deeds, asked, live = [], 0, []
        for turn in range(turns):
            if rng.random() < 0.15 and len(live) < 4:
                asked += 1
                live.append(asked)
                self.deeds.append(("ask", random_question(rng, turn, many, lags=lags)))
            if rng.random() < 0.05 and live:
                number = live.pop(rng.randrange(len(live)))
                if rng.random() < 0.5:
                    self.deeds.append(("end", number))
                else:
                    asked += 1
                    live.append(asked)
                    self.deeds.append(("change", number, random_question(rng, turn, many, lags=lags)))
            self.deeds.append(("turn", random_weather(rng, self.terms, rough=rough, death=death)))


def do(net, deed):
    """Do a deed to a net, and tell what it tells."""
    word, *rest = deed
    return {"ask": net.ask, "end": net.end, "change": net.change, "turn": net.step}[word](*rest)
