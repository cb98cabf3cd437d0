"""What the tests of places and nets hand in: terms, questions and weathers, plain ones and some by a seed."""

from itertools import combinations

from listenfield.terms import Terms
from listenfield.weather import Weather
from listenfield.webs import Web
from things import row_pairs

PLENTY = 10 ** 9


def terms_with(pairs, many, *, plans="w", energy=PLENTY, bound=0, **figures):
    """Terms of a web, all places alike but their plans, where a list of these is told."""
    plans = [plans] * (many - 1) if isinstance(plans, str) else plans
    return Terms(Web(many, pairs), [(0, 0, bound, energy, plan) for plan in plans], **figures)


def row_terms(many, **figures):
    """Terms of places in a row."""
    return terms_with(row_pairs(many), many, **figures)


def asking(*, sort=0, places=None, first=0, every=1, length=1, lag=0):
    """The terms of a question."""
    return sort, places, first, every, length, lag


def random_pairs(rng, many, more=0.15):
    """The pairs of a web without a cut place."""
    pairs = {(rng.randrange(at), at) for at in range(1, many)}
    pairs |= {pair for pair in combinations(range(many), 2) if rng.random() < more}
    return sorted(pairs)


def random_terms(rng, *, many=None, poor=False, quiet=None):
    """Terms of a web by chance, with stores that don't run dry, or such as do."""
    many = many or rng.randint(2, 6)
    web = Web(many, random_pairs(rng, many))
    quiet = quiet or rng.randint(1, 4)
    drift, jitter = rng.randint(0, 20), rng.randint(0, 20)
    need = many * (jitter + drift * (quiet + 1))
    most = (10 ** 6 // (max(web.slots()) + 1) - 1) // 2
    guard = rng.randint(need, min(most, need + rng.choice((0, 50, 10000))))
    plans = rng.choice((["w"], ["w"], ["w", "ws", "sw"], ["w", "wws", "ws"]))
    places = []
    for _ in range(1, many):
        bound = rng.choice((0, 5, guard, guard + 1, 10 ** 6, 10 ** 9))
        energy = rng.randint(0, 150) if poor else PLENTY
        places.append((rng.randint(-drift, drift), rng.randint(-bound, bound), bound, energy, rng.choice(plans)))
    return Terms(web, places, quiet=quiet, drift=drift, jitter=jitter, guard=guard, listen=rng.randint(0, 2),
                 speak=rng.randint(0, 2), item=rng.randint(0, 2))


def random_question(rng, turn, many, *, lags=(0, 3, 10, 30, 60)):
    """The terms of a question that is asked ahead of a turn."""
    every = rng.randint(1, 6)
    places = None if rng.random() < 0.6 else tuple(sorted(rng.sample(range(many), rng.randint(1, many))))
    return asking(sort=rng.randrange(2), places=places, first=turn + rng.randint(0, 4), every=every,
                  length=rng.randint(1, min(8, 2 * every)), lag=rng.choice(lags))


def random_weather(rng, terms, *, rough=0.2, death=0.0, sense=0.5):
    """A weather that fits terms: each list in no order."""
    many = terms.many()
    told = {"dead": [], "senses": [], "lost": [], "late": [], "doubled": [], "jitters": []}
    for speaker in range(many):
        for hearer in terms.web.neighbours(speaker):
            fate = rng.random()
            if fate < rough / 2:
                told["lost"].append((speaker, hearer))
            elif fate < rough:
                told["late"].append((speaker, hearer, rng.randint(1, 12)))
            elif fate < 2 * rough:
                told["doubled"].append((speaker, hearer, rng.randint(1, 12)))
            if rng.random() < 0.7:
                told["jitters"].append((speaker, hearer, rng.randint(-terms.jitter, terms.jitter)))
    told["dead"] = [at for at in range(1, many) if rng.random() < death]
    told["senses"] = [(at, sort, rng.randint(-50, 50)) for at in range(many) for sort in (0, 1) if rng.random() < sense]
    for things in told.values():
        rng.shuffle(things)
    return Weather(**told)
