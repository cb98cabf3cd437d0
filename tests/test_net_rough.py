"""Points 1 to 11, 20, 24, 26, 32, 33, 38 to 40, 44 and 51, of nets in rough weather, by a seed."""

import random
import unittest
from itertools import combinations

from deeds import Deeds, do
from fields import random_question, random_terms, random_weather
from listenfield.answers import answer_holds
from listenfield.clocks import chain_holds
from listenfield.errors import FieldError, Unfit
from listenfield.items import greatest, is_laminar
from listenfield.net import Net
from listenfield.questions import closes
from listenfield.stores import ledger_holds
from listenfield.terms import Terms
from listenfield.tracks import way_holds, way_to
from listenfield.weather import Weather
from listenfield.webs import Web, cut_holds
from model import Model
from snapshots import all_told, net_told
from things import Whole, is_own


def do_model(model, deed):
    """Do a deed to a model."""
    word, *rest = deed
    if word == "turn":
        model.step(*rest)
    elif word == "end":
        model.asking().end(*rest)
    else:
        getattr(model.asking(), word)(*rest, model.turn)


def readings_of(net, number, window):
    """What was sensed for a question and window."""
    return [(*mark, reading) for told, of, mark, reading in net.sensed() if (told, of) == (number, window)]


class AsPoint43Words(unittest.TestCase):

    def test_each_turn_is_that_of_the_places_alone(self):
        for seed in range(40):
            told = Deeds(seed, poor=seed % 4 == 0, turns=35)
            net, model = Net(told.terms), Model(told.terms)
            for deed in told.deeds:
                do(net, deed)
                do_model(model, deed)
            many = told.terms.many()
            self.assertEqual(net.turns(), model.turn)
            self.assertEqual(net.living(), model.living())
            for one, other in ((net.speeches(), model.speeches), (net.hearings(), model.hearings),
                               (net.meetings(), model.meetings), (net.sensed(), model.sensed),
                               (net.takings(), model.takings), (net.answers(), model.answers)):
                self.assertEqual(one, other, seed)
            self.assertEqual([net.items_at(at) for at in range(many)], [model.items_at(at) for at in range(many)])
            for number, window, mark, _ in net.sensed():
                self.assertEqual(net.rooms(number, window, mark), model.rooms(number, window, mark))
            for answer in net.answers():
                self.assertEqual(net.reasons(*answer[:2]), model.reasons[answer[:2]])
            self.assertEqual(net._timely, model.timely)


class Always(unittest.TestCase):
    """What holds in whatever weather."""

    def test_of_each_turn(self):
        for seed in range(20):
            told = Deeds(seed, poor=seed % 4 == 0, turns=40)
            net, terms = Net(told.terms), told.terms
            last_in_life = {}
            for deed in told.deeds:
                do(net, deed)
                turn = net.turns() - 1
                if deed[0] != "turn":
                    continue
                for at in net.living():
                    last_in_life[at] = turn
                meetings = net.meetings()
                for at in range(terms.many()):
                    place = net.place(at)
                    clock, store = place.clock, place.store
                    self.assertLessEqual(abs(clock.error()), clock.bound())
                    self.assertIs(chain_holds(terms, meetings, clock.chain(), at, last_in_life.get(at, 0),
                                              clock.bound()),
                                  True, (seed, turn, at))
                    self.assertIs(ledger_holds(terms, at, store.ledger(), store.left()), True)
                self.assertIs(cut_holds(terms.web, net.living(), net.cut()), True)
                self.assertTrue(is_laminar([item for at in range(terms.many()) for item in net.items_at(at)]))

    def test_all_that_is_told_is_pythons_own_and_told_again_the_same(self):
        for seed in range(8):
            told = Deeds(seed, turns=20)
            net, many = Net(told.terms), told.terms.many()
            for word, *rest in told.deeds:
                do(net, (word, *[Whole(part) if isinstance(part, int) else part for part in rest]))
            once = all_told(net, many)
            self.assertTrue(is_own(list(once.values())))
            self.assertEqual(all_told(net, many), once)

    def test_no_two_speeches_of_clashing_places_overlap(self):
        many = 0
        for seed in range(30):
            told = Deeds(seed, turns=30)
            net, web = Net(told.terms), told.terms.web
            for deed in told.deeds:
                do(net, deed)
            speeches = net.speeches()
            self.assertEqual(len({row[:2] for row in speeches}), len(speeches))
            for one, other in combinations(range(web.many()), 2):
                if web.clash(one, other):
                    spans = sorted([row[2:] for row in speeches if row[1] in (one, other)])
                    for ahead, behind in zip(spans, spans[1:]):
                        self.assertLessEqual(ahead[1], behind[0])
                        many += 1
            for _, _, begin, end in speeches:
                self.assertEqual(end - begin, told.terms.width() - 2 * told.terms.guard)
        self.assertGreater(many, 1000)

    def test_answers_are_of_the_marks_in_them_each_once(self):
        answers = lacking = 0
        for seed in range(40):
            told = Deeds(seed, poor=seed % 4 == 0, turns=45)
            net = Net(told.terms)
            for deed in told.deeds:
                do(net, deed)
            for answer in net.answers():
                number, window, turn, marks, count, total, least, most, mean, lacks = answer
                sensed = readings_of(net, number, window)
                self.assertIs(answer_holds(sensed, answer), True)
                chosen = [reading for place, when, reading in sensed if (place, when) in marks]
                self.assertEqual((count, total), (len(chosen), sum(chosen)))
                if chosen:
                    self.assertEqual((least, most), (min(chosen), max(chosen)))
                    self.assertEqual(mean[0] * count, mean[1] * total)
                self.assertEqual([mark for mark, _ in lacks], [mark for mark, _ in net.reasons(number, window)])
                answers += 1
                lacking += len(lacks)
            self.assertEqual(len({answer[:2] for answer in net.answers()}), len(net.answers()))
        self.assertGreater(answers, 300)
        self.assertGreater(lacking, 100)

    def test_each_mark_has_a_way_to_where_it_is(self):
        for seed in range(12):
            told = Deeds(seed, turns=35)
            net = Net(told.terms)
            for deed in told.deeds:
                do(net, deed)
            takings = net.takings()
            for number, window, turn, marks, *_, lacks in net.answers():
                by_then = [taking for taking in takings if taking[0] <= turn]
                for mark in marks:
                    way = way_to(by_then, number, window, mark, 0)
                    self.assertIs(way_holds(by_then, number, window, mark, 0, way), True)
                for mark, rooms in lacks:
                    self.assertIsNone(way_to(by_then, number, window, mark, 0))
                    for room in rooms:
                        way = way_to(by_then, number, window, mark, room)
                        self.assertIs(way_holds(by_then, number, window, mark, room, way), True)
            for number, window, mark, _ in net.sensed():
                for room in net.rooms(number, window, mark):
                    self.assertIsNotNone(way_to(takings, number, window, mark, room))

    def test_no_mark_is_lost_until_a_window_is_let_go_of(self):
        for seed in range(12):
            told = Deeds(seed, turns=35)
            net = Net(told.terms)
            for deed in told.deeds:
                do(net, deed)
                live = {question[0]: question for question in net.place(0).listed()[1]}
                for number, window, mark, _ in net.sensed():
                    if number in live and closes(live[number], window) >= net.turns():
                        self.assertTrue(net.rooms(number, window, mark))
            for at in range(told.terms.many()):
                # By the greatest ones of a place no mark is counted twice.
                marks = [(*item[:2], mark) for item in greatest(net.items_at(at)) for mark in item[2]]
                self.assertEqual(len(set(marks)), len(marks))


class WhereTheBoundIsHeld(unittest.TestCase):

    def held_since(self, net, first):
        """The first turn, this one or a later one, from which on the bound of loss is held to the last turn."""
        while first < net.turns() and not net.held(first, net.turns() - 1):
            first += 1
        return first

    def check_levels(self, net, terms, first):
        """What 26 and 6 tell of the end of a turn."""
        far = terms.web.distances(net.living())
        version, questions = net.place(0).listed()
        for at in net.living():
            place = net.place(at)
            if far[at] is None:
                continue
            self.assertIs(place.clock.in_time(), True)
            self.assertLessEqual(place.clock.bound(), far[at] * (terms.jitter + terms.drift * (terms.quiet + 1)))
            self.assertEqual(place.levels.level(), far[at])
            if at > 0:
                head = place.levels.head()
                self.assertIn(head, terms.web.neighbours(at))
                self.assertEqual(far[head], far[at] - 1)

    def test_levels_heads_lists_and_answers(self):
        counts = {"turns": 0, "answers": 0, "ended": 0, "cut": 0, "behind a death": 0}
        for seed in range(60):
            rng = random.Random(seed)
            terms = random_terms(rng, many=rng.choice((2, 2, 3, 3, 4, 5)), quiet=rng.choice((1, 1, 2, 3, 4)))
            told = Deeds(seed, terms=terms, turns=60, rough=rng.choice((0, 0.05, 0.1)), death=rng.choice((0, 0.006)),
                         lags=(0, 15, 20, 30))
            net, settled = Net(terms), (terms.many() + 1) * (terms.quiet + 1)
            asked, ended, questions, first = {}, {}, {}, 0
            for deed in told.deeds:
                number = do(net, deed)
                if deed[0] in ("end", "change"):
                    ended[deed[1]] = net.turns()
                if deed[0] in ("ask", "change"):
                    asked[number], questions[number] = net.turns(), deed[-1]
                if deed[0] != "turn":
                    continue
                turn = net.turns() - 1
                first = self.held_since(net, first)
                if turn >= first + settled:
                    self.check_levels(net, terms, first)
                    counts["turns"] += 1
                    counts["behind a death"] += len(net.living()) < terms.many()
                    self.check_lists(net, terms, first, asked, ended, counts)
                if turn >= first + terms.many() * (terms.quiet + 1):
                    for at in net.cut():
                        if (turn, at) in [row[:2] for row in net.speeches()]:
                            self.assertEqual((net.place(at).levels.level(), net.place(at).levels.head()),
                                             (terms.many(), None))
                            counts["cut"] += 1
                self.check_answers(net, terms, questions, asked, first, counts)
        for what, least in (("turns", 500), ("answers", 50), ("ended", 50), ("cut", 5), ("behind a death", 50)):
            self.assertGreater(counts[what], least, what)

    def check_lists(self, net, terms, first, asked, ended, counts):
        """Each place with a living road has the questions that were asked by then, none that had ended."""
        far = terms.web.distances(net.living())
        for at in net.living():
            if far[at] is not None:
                known = [question[0] for question in net.place(at).listed()[1]]
                for number, when in asked.items():
                    if number in ended:
                        if ended[number] <= first:
                            self.assertNotIn(number, known)
                            self.assertNotIn(number, [item[0] for item in net.items_at(at)])
                            counts["ended"] += 1
                    elif when <= first:
                        self.assertIn(number, known)

    def check_answers(self, net, terms, questions, asked, first, counts):
        """What a window that begins late enough lacks, where its lag is long enough."""
        far = terms.web.distances(net.living())
        for answer in net.answers():
            number, window, turn = answer[:3]
            if turn != net.turns() - 1:
                continue
            since = max(first, asked[number])
            begin = questions[number][2] + window * questions[number][3]
            long = questions[number][5] >= 3 * terms.many() * (terms.quiet + 1)
            if long and begin >= since + (terms.many() + 1) * (terms.quiet + 1):
                self.assertTrue(all(far[place] is None for (place, _), _ in answer[9]), answer)
                counts["answers"] += 1


class SideBySide(unittest.TestCase):

    def test_two_questions_are_answered_as_if_the_other_had_never_been(self):
        for seed in range(15):
            rng = random.Random(seed)
            terms = random_terms(rng)
            asked = [(3, random_question(rng, 3, terms.many())), (rng.choice((3, 9)),
                                                                  random_question(rng, 9, terms.many()))]
            end = rng.choice((30, 70))
            weathers = [random_weather(rng, terms, rough=0.25, death=0.01) for _ in range(50)]
            told = []
            for chosen in ((0, 1), (0,), (1,)):
                net, numbers = Net(terms), {}
                for turn, weather in enumerate(weathers):
                    for which in chosen:
                        if asked[which][0] == turn:
                            numbers[which] = net.ask(asked[which][1])
                    if turn == end:
                        net.end(numbers[chosen[0]])
                    net.step(weather)
                told.append({which: [answer[1:] for answer in net.answers() if answer[0] == number]
                             for which, number in numbers.items()})
            if end == 70:
                self.assertEqual(told[0], {**told[1], **told[2]})
            else:
                self.assertEqual(told[0][0], told[1][0])


class Doubled(unittest.TestCase):

    def test_they_change_nothing_but_what_11_names(self):
        more = 0
        for seed in range(15):
            told = Deeds(seed, poor=seed % 3 == 0, rough=0.3, turns=35)
            both = Net(told.terms), Net(told.terms)
            for deed in told.deeds:
                do(both[0], deed)
                if deed[0] == "turn":
                    weather = deed[1]
                    deed = ("turn", Weather(dead=weather.dead, senses=weather.senses, lost=weather.lost,
                                            late=weather.late, jitters=weather.jitters))
                do(both[1], deed)
            self.assertEqual(*[net_told(net, told.terms.many()) for net in both])
            more += len(both[0].hearings()) - len(both[1].hearings())
        self.assertGreater(more, 200)


class Refused(unittest.TestCase):

    def test_a_net_that_is_told_what_is_refused_goes_on_as_one_that_was_not_told_it(self):
        for seed in range(10):
            rng = random.Random(seed)
            told = Deeds(seed, turns=25)
            both, many = (Net(told.terms), Net(told.terms)), told.terms.many()
            for deed in told.deeds:
                for wrong in (("turn", Weather(dead=[0])), ("turn", Weather(senses=[(9, 0, 1), (9, 0, 2)])),
                              ("end", 99), ("change", 0, random_question(rng, 900, many)),
                              ("turn", Weather(lost=[(0, 0)])), ("ask", (0, None, -1, 1, 1, 0))):
                    if rng.random() < 0.5:
                        self.assertRaises(FieldError, do, both[0], wrong)
                for net in both:
                    do(net, deed)
            self.assertEqual(*[all_told(net, many) for net in both])

    def test_unfit_is_the_word_for_weathers(self):
        net = Net(Terms(Web(2, []), [(0, 0, 0, 1, "w")]))
        with self.assertRaises(Unfit):
            net.step(Weather(lost=[(0, 1)]))
        self.assertEqual(net.turns(), 0)


class Apart(unittest.TestCase):

    def test_two_nets_know_nothing_of_each_other(self):
        for seed in range(6):
            one, other = Deeds(seed, turns=25), Deeds(seed + 100, turns=25)
            alone = []
            for told in (one, other):
                net = Net(told.terms)
                for deed in told.deeds:
                    do(net, deed)
                alone.append(all_told(net, told.terms.many()))
            nets = [Net(one.terms), Net(other.terms)]
            for at in range(max(len(one.deeds), len(other.deeds))):
                for net, told in zip(nets, (one, other)):
                    if at < len(told.deeds):
                        do(net, told.deeds[at])
            self.assertEqual([all_told(net, told.terms.many()) for net, told in zip(nets, (one, other))], alone)

    def test_copies_that_go_on_otherwise(self):
        for seed in range(8):
            told = Deeds(seed, turns=16)
            many, first = told.terms.many(), told.deeds[:8]
            others = [[deed for deed in Deeds(seed + more, terms=told.terms, turns=30).deeds if deed[0] == "turn"]
                      for more in (1, 2)]
            whole = Net(told.terms)
            for deed in first:
                do(whole, deed)
            both = [whole, whole.copied()]
            for deeds in zip(*others):
                for net, deed in zip(both, deeds):
                    do(net, deed)
            for net, deeds in zip(both, others):
                alone = Net(told.terms)
                for deed in first + deeds:
                    do(alone, deed)
                self.assertEqual(all_told(net, many), all_told(alone, many))

    def test_copies_at_any_time(self):
        for seed in range(8):
            told = Deeds(seed, turns=25)
            many = told.terms.many()
            net, twins = Net(told.terms), []
            for at, deed in enumerate(told.deeds):
                if at % 7 == 3:
                    twins.append((at, net.copied(), all_told(net, many)))
                do(net, deed)
            for at, twin, then in twins:
                self.assertEqual(all_told(twin, many), then)
                for deed in told.deeds[at:]:
                    do(twin, deed)
                self.assertEqual(all_told(twin, many), all_told(net, many))


if __name__ == "__main__":
    unittest.main()
