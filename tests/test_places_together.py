"""Points 5, 6, 9 to 11, 30 to 33, 36, 39 and 40, of places that speak and hear turn by turn."""

import random
import unittest

from fields import (asking, random_question, random_terms, random_weather, row_terms, terms_with)
from listenfield.answers import answer_holds
from listenfield.items import is_laminar
from listenfield.questions import closes
from listenfield.weather import Weather
from model import Model
from things import all_pairs, ring_pairs, row_pairs, star_pairs


def turns(model, many, **told):
    """Do some turns, all with the same weather."""
    for _ in range(many):
        model.step(Weather(**told))


def all_items(model):
    """Every item that stands anywhere."""
    return [item for at in range(model.terms.many()) for item in model.items_at(at)]


def tight_twice(model):
    """The marks that lie in two items that aren't loose, but for parcels that were taken."""
    count = {}
    for at, place in enumerate(model.places):
        for question in place.listed()[1]:
            post, number = place.post(question[0]), question[0]
            items = post.held()
            if post.out():
                made, to, packed = post.out()
                other = model.places[to].post(number)
                if other is None or other.taken(at) < made:
                    items = items + list(packed)
            for item in items:
                if not item[6]:
                    for mark in item[2]:
                        key = (number, item[1], mark)
                        count[key] = count.get(key, 0) + 1
    return [key for key, many in count.items() if many > 1]


class Calm(unittest.TestCase):

    def test_lists_spread_a_step_a_turn_up_the_row(self):
        model = Model(row_terms(5))
        model.asking().ask(asking(first=50), 0)
        # By the slots 0, 1, 2, 0, 1 of the places a list goes on to place 2 in turn 0, then to all.
        self.assertEqual(model.web.slots(), [0, 1, 2, 0, 1])
        known = []
        for _ in range(3):
            model.step(Weather())
            known.append([len(place.listed()[1]) for place in model.places])
        self.assertEqual(known, [[1, 1, 1, 1, 0], [1, 1, 1, 1, 1], [1, 1, 1, 1, 1]])
        model.asking().end(1)
        turns(model, 2)
        self.assertEqual([place.listed() for place in model.places], [(2, ())] * 5)

    def test_parcels_climb_to_the_root(self):
        for pairs in (row_pairs, ring_pairs, star_pairs, all_pairs):
            for many in (2, 3, 5, 7):
                model = Model(terms_with(pairs(many), many, quiet=2))
                turns(model, 9)
                model.asking().ask(asking(first=14, every=3, length=3, lag=20), 9)
                turns(model, 5)
                for turn in range(3):
                    model.step(Weather(senses=[(at, 0, 10 * at + turn) for at in range(many)]))
                turns(model, 20)
                (answer,) = [each for each in model.answers if each[1] == 0]
                readings = [10 * at + turn for at in range(many) for turn in range(3)]
                self.assertEqual(answer[2], 36)
                self.assertEqual(answer[3], tuple((at, 14 + turn) for at in range(many) for turn in range(3)))
                self.assertEqual(answer[4:8], (3 * many, sum(readings), 0, 10 * many - 8))
                self.assertEqual(answer[9], ())
                self.assertEqual([model.items_at(at) for at in range(many)], [[]] * many)

    def test_what_is_taken_is_out_no_more_when_that_is_heard(self):
        model = Model(row_terms(3, quiet=3))
        model.asking().ask(asking(first=0, every=20, length=8, lag=100), 0)
        turns(model, 6)
        model.step(Weather(senses=[(2, 0, 5)]))
        # In turn 6 place 2 speaks last, so place 1 has it then, and in turn 7 the root has it.
        self.assertEqual(model.rooms(1, 0, (2, 6)), [1, 2])
        model.step(Weather())
        self.assertEqual(model.rooms(1, 0, (2, 6)), [0, 1])
        model.step(Weather())
        self.assertEqual(model.rooms(1, 0, (2, 6)), [0])


class Rough(unittest.TestCase):

    def checks(self, model):
        """No mark stands twice, none is lost."""
        self.assertTrue(is_laminar(all_items(model)))
        self.assertEqual(tight_twice(model), [])
        live = {question[0]: question for question in model.places[0].listed()[1]}
        for number, window, mark, _ in model.sensed:
            if number in live and closes(live[number], window) >= model.turn:
                self.assertTrue(model.rooms(number, window, mark), (number, window, mark))

    def test_no_mark_stands_twice_and_none_is_lost(self):
        answers = lacking = 0
        for seed in range(25):
            rng = random.Random(seed)
            terms = random_terms(rng, poor=seed % 4 == 0)
            model = Model(terms)
            rough, death = rng.choice((0.05, 0.2, 0.4)), rng.choice((0, 0.01))
            for turn in range(45):
                if rng.random() < 0.15 and len(model.asking().listed()[1]) < 4:
                    model.asking().ask(random_question(rng, turn, terms.many()), turn)
                model.step(random_weather(rng, terms, rough=rough, death=death))
                self.checks(model)
            for answer in model.answers:
                told = [(*mark, reading) for number, window, mark, reading in model.sensed
                        if (number, window) == answer[:2]]
                self.assertIs(answer_holds(told, answer), True, (seed, answer))
                answers += 1
                lacking += len(answer[9])
        self.assertGreater(answers, 200)
        self.assertGreater(lacking, 100)

    def test_ended_questions_leave_nothing(self):
        heard = deaf = 0
        for seed in range(12):
            rng = random.Random(seed)
            terms = random_terms(rng)
            model = Model(terms)
            for turn in range(25):
                if turn in (2, 4, 9):
                    model.asking().ask(random_question(rng, turn, terms.many()), turn)
                model.step(random_weather(rng, terms, rough=0.3))
            for number in (1, 3):
                model.asking().end(number)
            version = model.asking().version()
            for _ in range(25):
                model.step(random_weather(rng, terms, rough=0.3))
                for at, place in enumerate(model.places):
                    if place.listed()[0] == version:
                        self.assertEqual([question[0] for question in place.listed()[1]], [2])
                        self.assertEqual([place.post(number) for number in (1, 3)], [None, None])
                        self.assertEqual({item[0] for item in model.items_at(at)} - {2}, set())
            heard += [place.listed()[0] for place in model.places].count(version)
            deaf += [place.listed()[0] < version for place in model.places].count(True)
        # Some are asleep whenever their neighbours speak.
        self.assertGreater(heard, 5 * deaf)

    def test_an_ended_question_takes_no_energy(self):
        # What speaking costs is for the parcels of questions that live alone.
        model = Model(row_terms(3, item=1, energy=1000, quiet=3))
        model.asking().ask(asking(every=20, length=8, lag=100), 0)
        turns(model, 6)
        turns(model, 1, senses=[(2, 0, 5)], lost=[(1, 2), (0, 1)])
        turns(model, 2, lost=[(1, 2), (0, 1)])
        self.assertEqual([row[2] for row in model.places[2].store.ledger() if row[1] == "speak"][-3:], [1, 1, 1])
        model.asking().end(1)
        turns(model, 3)
        self.assertEqual([row[2] for row in model.places[2].store.ledger() if row[1] == "speak"][-2:], [0, 0])

    def test_two_questions_are_answered_as_if_the_other_had_never_been(self):
        for seed in range(12):
            rng = random.Random(seed)
            terms = random_terms(rng)
            one, other = random_question(rng, 3, terms.many()), random_question(rng, 6, terms.many())
            weathers = [random_weather(rng, terms, rough=0.25, death=0.01) for _ in range(60)]
            told = []
            for chosen in ((0, 1), (0,), (1,)):
                model, numbers = Model(terms), {}
                for turn, weather in enumerate(weathers):
                    for which, terms_of, asked in ((0, one, 3), (1, other, 6)):
                        if turn == asked and which in chosen:
                            numbers[which] = model.asking().ask(terms_of, turn)
                    if turn == 50 and 0 in chosen:
                        model.asking().end(numbers[0])
                    model.step(weather)
                told.append({which: [answer[1:] for answer in model.answers if answer[0] == number]
                             for which, number in numbers.items()})
            self.assertEqual(told[0], {**told[1], **told[2]})

    def test_doubled_ones_change_nothing_but_the_hearings(self):
        for seed in range(12):
            rng = random.Random(seed)
            terms = random_terms(rng, poor=seed % 3 == 0)
            both = Model(terms), Model(terms)
            for turn in range(40):
                if turn in (1, 7, 20):
                    question = random_question(rng, turn, terms.many())
                    for model in both:
                        model.asking().ask(question, turn)
                if turn == 25:
                    for model in both:
                        model.asking().end(1)
                weather = random_weather(rng, terms, rough=0.3, death=0.005)
                plain = Weather(dead=weather.dead, senses=weather.senses, lost=weather.lost, late=weather.late,
                                jitters=weather.jitters)
                both[0].step(weather)
                both[1].step(plain)
                self.assertEqual(*[told_of(model) for model in both])
            self.assertGreater(len(both[0].hearings), len(both[1].hearings))


def told_of(model):
    """All that is told but the hearings."""
    places = [(place.levels.level(), place.levels.head(), place.clock.error(), place.clock.chain(),
               place.store.ledger(), place.listed()) for place in model.places]
    return (model.speeches, model.meetings, model.sensed, model.takings, model.answers, model.reasons, places,
            [model.items_at(at) for at in range(model.terms.many())])


if __name__ == "__main__":
    unittest.main()
