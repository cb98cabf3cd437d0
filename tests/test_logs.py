"""Points 46 to 48, and points 2 to 4 and 11 of them: rows of deeds and terms, logs, nets that come up of them."""

import random
import unittest

from deeds import DEEDS, STRANGE, TERMS, Deeds, do
from fields import asking, random_question, random_terms, random_weather, row_terms
from listenfield.errors import FieldError, NoLog, NoNumber, NoText, TooMany, Unfit, Wrong
from listenfield.logs import Log, come_up, read_deed, read_terms, show_deed, show_terms
from listenfield.net import Net
from listenfield.terms import Terms
from listenfield.weather import Weather
from listenfield.webs import Web
from snapshots import all_told
from things import Pair, SlyText, Text, Whole, is_own

LISTS = ("dead", "senses", "lost", "late", "doubled", "jitters")
WEATHERS = [
    ("turn", {}),
    ("turn senses 2,0,17 lost 1,0 3,1", {"senses": [(2, 0, 17)], "lost": [(1, 0), (3, 1)]}),
    ("turn dead 3", {"dead": [3]}),
    ("turn dead 0 3 9", {"dead": [0, 3, 9]}),
    ("turn senses 0,0,0 0,1,-5 1,0,1000000000 1,9,-1000000000",
     {"senses": [(0, 0, 0), (0, 1, -5), (1, 0, 10 ** 9), (1, 9, -(10 ** 9))]}),
    ("turn senses 1,0,-5 1,0,3", {"senses": [(1, 0, -5), (1, 0, 3)]}),
    ("turn lost 0,0 0,1 9,8", {"lost": [(0, 0), (0, 1), (9, 8)]}),
    ("turn late 0,1,1 0,1,50 2,1,7", {"late": [(0, 1, 1), (0, 1, 50), (2, 1, 7)]}),
    ("turn doubled 0,1,1", {"doubled": [(0, 1, 1)]}),
    ("turn jitters 0,1,-12 0,2,0 1,0,7", {"jitters": [(0, 1, -12), (0, 2, 0), (1, 0, 7)]}),
    ("turn dead 4 senses 1,2,3 lost 5,6 late 7,8,9 doubled 1,2,3 jitters 4,5,6",
     {"dead": [4], "senses": [(1, 2, 3)], "lost": [(5, 6)], "late": [(7, 8, 9)], "doubled": [(1, 2, 3)],
      "jitters": [(4, 5, 6)]}),
]


def lists_of(weather):
    """The lists of a weather."""
    return [getattr(weather, name) for name in LISTS]


def variants(row):
    """Texts that are nearly a deed's row."""
    yield from (row + " ", " " + row, row.replace(" ", "  ", 1) if " " in row else row + "  ", row + "\n", row.upper(),
                row.replace(" ", "\t", 1) if " " in row else row + "\t", row + ",", row + " x", "x" + row, row + "\r",
                row[:-1] + "\u0661", row + " 1", row.replace(",", ", ", 1) if "," in row else row + ", 1")
    words = row.split(" ")
    for at, word in enumerate(words):
        for sign in ("0" + word, "+" + word, "00", "-0", "", "1.0", "0x1", "1_0", word + ",", "," + word, "-" + word,
                     "9" * 12, "9" * 5000, "None", "True"):
            if sign != "-" + word or word[:1] not in "123456789" or "," in word:
                yield " ".join(words[:at] + [sign] + words[at + 1:])
        if len(words) > 1:
            yield " ".join(words[:at] + words[at + 1:]) + (" " if row.startswith("turn") else "")


class ShowAndRead(unittest.TestCase):

    def test_questions(self):
        for row, deed in DEEDS:
            self.assertEqual(show_deed(deed), row)
            self.assertEqual(read_deed(row), deed)
            self.assertTrue(is_own(read_deed(row)))

    def test_turns(self):
        for row, told in WEATHERS:
            self.assertEqual(show_deed(("turn", Weather(**told))), row)
            word, weather = read_deed(row)
            self.assertEqual(word, "turn")
            self.assertIsInstance(weather, Weather)
            self.assertEqual(lists_of(weather), lists_of(Weather(**told)))

    def test_things_are_written_rising(self):
        rng = random.Random(46)
        for row, told in WEATHERS:
            for _ in range(5):
                mixed = {name: rng.sample(things, len(things)) for name, things in told.items()}
                weather = Weather(**mixed)
                self.assertEqual(show_deed(("turn", weather)), row)
                self.assertEqual(lists_of(weather), lists_of(Weather(**mixed)))

    def test_numbers_not_texts_are_sorted(self):
        weather = Weather(senses=[(0, 0, 9), (0, 0, 10), (0, 0, -2), (0, 0, -10)])
        self.assertEqual(show_deed(("turn", weather)), "turn senses 0,0,-10 0,0,-2 0,0,9 0,0,10")

    def test_by_a_seed_both_ways(self):
        rng = random.Random(47)
        for _ in range(60):
            terms = random_terms(rng)
            weather = random_weather(rng, terms, rough=0.4, death=0.3)
            row = show_deed(("turn", weather))
            word, again = read_deed(row)
            self.assertEqual(lists_of(again), [sorted(things) for things in lists_of(weather)])
            self.assertEqual(show_deed((word, again)), row)
            question = random_question(rng, rng.randrange(100), 10)
            for deed in (("ask", question), ("change", rng.randint(1, 99), question)):
                self.assertEqual(read_deed(show_deed(deed)), deed)

    def test_of_classes_beneath(self):
        deed = Pair((Text("change"), Whole(7), Pair((Whole(3), Pair((Whole(4), Whole(5))),
                                                     *map(Whole, (1, 5, 3, 20))))))
        self.assertEqual(show_deed(deed), "change 7 3 4,5 1 5 3 20")
        self.assertTrue(is_own(show_deed(deed)))
        for text in (Text, SlyText):
            for row, deed in DEEDS:
                self.assertEqual(read_deed(text(row)), deed)
                self.assertTrue(is_own(read_deed(text(row))))
            with self.assertRaises(NoText):
                read_deed(text("end 0"))


class NoDeeds(unittest.TestCase):

    def refused(self, row):
        """It is refused with NoText."""
        with self.assertRaises(NoText):
            read_deed(row)

    def test_other_things(self):
        for thing in STRANGE:
            self.refused(thing)

    def test_other_words(self):
        for row in ("", " ", "\n", "w", "0", "1", "ask", "end", "change", "turns", "Turn", "turn ", " turn", "turn\n",
                    "living",
                    "log", "-", "turn -", "ask -", "end -", "turn none", "no", "ende 1", "asks 0 - 0 1 1 0", TERMS):
            self.refused(row)

    def test_nearly_rows(self):
        for row, _ in DEEDS + WEATHERS:
            for other in variants(row):
                if other != row and other not in dict(DEEDS + WEATHERS):
                    self.refused(other)

    def test_what_is_no_question(self):
        for row in ("ask 10 - 0 1 1 0", "ask -1 - 0 1 1 0", "ask 0 10 0 1 1 0", "ask 0 1,0 0 1 1 0",
                    "ask 0 1,1 0 1 1 0",
                    "ask 0 -,1 0 1 1 0", "ask 0 - -1 1 1 0", "ask 0 - 1000001 1 1 0", "ask 0 - 0 0 1 0",
                    "ask 0 - 0 21 1 0", "ask 0 - 0 1 0 0", "ask 0 - 0 1 3 0", "ask 0 - 0 20 9 0", "ask 0 - 0 1 1 -1",
                    "ask 0 - 0 1 1 201", "ask 0 - 0 1 1", "ask 0 - 0 1 1 0 0", "ask 0 0 1 1 0", "ask 0  0 1 1 0",
                    "ask - - 0 1 1 0", "ask 0 - - 1 1 0", "ask 0 - 0,1 1 1 0", "ask 1 0 - 0 1 1 0"):
            self.refused(row)
            self.refused("change 1 " + row[4:])

    def test_numbers_of_questions(self):
        for number in ("0", "-1", "1000000001", "01", "", "-", "+1", "1,2", "x", "1 1", "1."):
            self.refused(f"end {number}")
            self.refused(f"change {number} 0 - 0 1 1 0")

    def test_what_is_no_weather(self):
        for row in ("turn dead", "turn senses", "turn dead senses 1,0,1", "turn dead 1 senses", "turn 1",
                    "turn 1,0 lost",
                    "turn dead 10", "turn dead -1", "turn dead 1,2", "turn dead 1,", "turn senses 1,0", "turn senses 1,0,1,1",
                    "turn senses 10,0,1", "turn senses 1,10,1", "turn senses 1,0,1000000001", "turn senses 1,0,-1000000001",
                    "turn lost 1", "turn lost 1,0,1", "turn lost 10,0", "turn late 1,0", "turn late 1,0,0",
                    "turn late 1,0,51", "turn doubled 1,0,0", "turn doubled 1,0,51", "turn doubled 1,0",
                    "turn jitters 1,0", "turn jitters 1,0,1000000001", "turn rain 1", "turn dead dead 1", "turn -"):
            self.refused(row)

    def test_words_told_twice_or_in_another_order(self):
        for row in ("turn dead 1 dead 2", "turn lost 1,0 lost 2,1", "turn senses 1,0,1 dead 1",
                    "turn lost 1,0 senses 1,0,1",
                    "turn late 1,0,1 lost 2,1", "turn doubled 1,0,1 late 2,1,1", "turn jitters 1,0,1 doubled 2,1,1",
                    "turn dead 1 lost 1,0 dead 2"):
            self.refused(row)

    def test_things_that_do_not_rise(self):
        for row in ("turn dead 3 1", "turn dead 3 3", "turn senses 2,0,1 1,0,1", "turn senses 1,1,0 1,0,0",
                    "turn senses 1,0,10 1,0,9", "turn senses 1,0,-2 1,0,-10", "turn senses 1,0,1 1,0,1",
                    "turn lost 1,2 1,0", "turn lost 1,0 1,0", "turn late 1,0,10 1,0,9", "turn late 1,0,1 1,0,1",
                    "turn doubled 2,1,1 1,2,1", "turn doubled 1,2,1 1,2,1", "turn jitters 1,0,0 0,1,0",
                    "turn jitters 1,0,0 1,0,0"):
            self.refused(row)


class OfTerms(unittest.TestCase):

    def test_both_ways(self):
        terms = read_terms(TERMS)
        self.assertIsInstance(terms, Terms)
        self.assertEqual((terms.many(), terms.web.pairs()), (3, [(0, 1), (1, 2)]))
        self.assertEqual((terms.quiet, terms.drift, terms.jitter, terms.guard, terms.listen, terms.speak, terms.item),
                         (2, 1, 3, 40, 4, 5, 6))
        self.assertEqual([terms.place(at) for at in (1, 2)], [(-1, 3, 9, 1000, "w"), (1, -2, 2, 0, "wsswswsw")])
        self.assertEqual(show_terms(terms), TERMS)

    def test_no_pairs(self):
        row = "places 2 pairs - quiet 1 drift 0 jitter 0 guard 0 listen 0 speak 0 item 0 0,0,0,0,s"
        self.assertEqual(show_terms(Terms(Web(2, []), [(0, 0, 0, 0, "s")])), row)
        self.assertEqual(read_terms(row).web.pairs(), [])
        self.assertEqual(show_terms(read_terms(row)), row)

    def test_by_a_seed(self):
        rng = random.Random(48)
        for many in list(range(2, 11)) * 4:
            terms = random_terms(rng, many=many, quiet=1)
            again = read_terms(show_terms(terms))
            self.assertEqual(show_terms(again), show_terms(terms))
            self.assertEqual((again.web.pairs(), again.guard), (terms.web.pairs(), terms.guard))
            self.assertEqual([again.place(at) for at in range(1, many)], [terms.place(at) for at in range(1, many)])

    def test_of_classes_beneath(self):
        for text in (Text, SlyText):
            self.assertEqual(show_terms(read_terms(text(TERMS))), TERMS)
        self.assertTrue(is_own(show_terms(read_terms(Text(TERMS)))))

    def refused(self, row):
        """It is refused with NoText."""
        with self.assertRaises(NoText):
            read_terms(row)

    def test_other_things(self):
        for thing in STRANGE + ["", " ", "\n", "turn", "places", "quiet", "places 3 pairs", "places 3 pairs quiet",
                                "quiet 1",
                                "x x x x quiet", "x x x x quiet 1", "x x x quiet quiet quiet quiet"]:
            self.refused(thing)

    def test_nearly_rows(self):
        right = (TERMS.replace("1000,w", "1000,ws"), TERMS.replace("quiet 2", "quiet 1"))
        for row in right:
            self.assertEqual(show_terms(read_terms(row)), row)
        for other in (TERMS + " ", " " + TERMS, TERMS + "\n", TERMS.replace(" ", "  ", 1), TERMS + " 0,0,0,0,w"):
            self.refused(other)

    def test_each_word_and_number_put_otherwise(self):
        words = TERMS.split(" ")
        for at, word in enumerate(words):
            for other in ("", "x", "-", "00", "01", "+1", "1_0", "1.0", "-0", word + ",", "0" + word, word + " ",
                          "9" * 5000):
                self.refused(" ".join(words[:at] + [other] + words[at + 1:]))
            if at not in (3, 4):
                # One pair less is a web, too.
                self.refused(" ".join(words[:at] + words[at + 1:]))
            self.refused(" ".join(words[:at] + [word] + words[at:]))

    def test_what_would_be_refused_as_terms(self):
        for old, new in (("places 3", "places 2"), ("places 3", "places 4"), ("places 3", "places 1"),
                         ("places 3", "places 11"), ("0,1 1,2", "1,2 0,1"), ("0,1 1,2", "0,1 0,1"), ("0,1 1,2",
                                                                                                     "0,1 2,1"),
                         ("0,1 1,2", "0,1 1,3"), ("0,1 1,2", "0,1 1,1"), ("0,1 1,2", "- 0,1"), ("0,1 1,2", "0,1 -"),
                         ("0,1 1,2", "0,1,2"), ("0,1 1,2", "0 1"), ("quiet 2", "quiet 0"), ("quiet 2", "quiet 21"),
                         ("drift 1", "drift -1"), ("drift 1", "drift 0"), ("guard 40", "guard 17"),
                         ("guard 40", "guard 166667"), ("guard 40", "guard 1000000001"), ("listen 4", "listen -4"),
                         ("item 6", "item 1000000001"), ("-1,3,9,", "-2,3,9,"), ("-1,3,9,", "-1,10,9,"),
                         ("-1,3,9,", "-1,3,-9,"), ("1000,w ", "-1,w "), ("1000,w ", "1000, "), ("1000,w ", "1000,x "),
                         ("wsswswsw", "wsswswsww"), ("1000,w ", "1000,w,w "), ("-1,3,9,1000,w", "-1,3,9,w"),
                         ("drift 1 jitter 3", "jitter 3 drift 1")):
            self.assertIn(old, TERMS)
            self.refused(TERMS.replace(old, new))
        self.assertEqual(read_terms(TERMS.replace("guard 40", "guard 18")).guard, 18)


class Logs(unittest.TestCase):

    def test_a_row_for_each_deed_that_was_done(self):
        log = Log(row_terms(3))
        self.assertEqual(log.text(), "")
        self.assertEqual(log.do("ask 0 - 0 1 1 9"), 1)
        self.assertIsNone(log.do("turn"))
        self.assertEqual(log.do("change 1 1 0,2 1 2 3 9"), 2)
        self.assertIsNone(log.do("turn senses 2,0,17 lost 1,0"))
        self.assertIsNone(log.do("end 2"))
        self.assertEqual(log.text(), "ask 0 - 0 1 1 9\nturn\nchange 1 1 0,2 1 2 3 9\nturn senses 2,0,17 lost 1,0\nend 2\n")
        self.assertTrue(is_own(log.text()))
        self.assertEqual(log.net().turns(), 2)

    def test_the_net_is_a_copy(self):
        log = Log(row_terms(3))
        net = log.net()
        self.assertIsInstance(net, Net)
        net.step(Weather())
        net.ask(asking(first=1))
        self.assertEqual((log.net().turns(), log.net().place(0).listed(), log.text()), (0, (0, ()), ""))
        self.assertEqual(log.do("ask 0 - 0 1 1 9"), 1)

    def test_what_is_refused_is_no_row_and_changes_nothing(self):
        log = Log(row_terms(3))
        for row in ("ask 0 - 0 1 1 9", "turn", "turn senses 1,0,4"):
            log.do(row)
        text, before = log.text(), all_told(log.net(), 3)
        for row, error in (("turn ", NoText), ("turns", NoText), (None, NoText), (5, NoText), ("turn dead 0", Unfit),
                           ("turn lost 0,2", Unfit), ("end 2", NoNumber), ("change 9 0 - 9 1 1 0", NoNumber),
                           ("change 1 0 - 1 1 1 0", Wrong), ("ask 0 - 1 1 1 0", Wrong)):
            with self.assertRaises(error):
                log.do(row)
            self.assertEqual((log.text(), all_told(log.net(), 3)), (text, before))
        for _ in range(3):
            log.do("ask 0 - 9 1 1 0")
        with self.assertRaises(TooMany):
            log.do("ask 0 - 9 1 1 0")
        self.assertEqual(log.text(), text + "ask 0 - 9 1 1 0\n" * 3)

    def test_rows_are_pythons_own(self):
        for text in (Text, SlyText):
            log = Log(row_terms(3))
            log.do(text("turn lost 1,0"))
            self.assertEqual(log.text(), "turn lost 1,0\n")
            self.assertTrue(is_own(log.text()))


class ComeUp(unittest.TestCase):

    def test_of_nothing(self):
        terms = row_terms(3)
        log = come_up(terms, "")
        self.assertIsInstance(log, Log)
        self.assertEqual((log.text(), log.net().turns()), ("", 0))

    def test_of_any_beginning_gone_on_with(self):
        for seed in range(6):
            told = Deeds(seed, turns=15, poor=seed == 0)
            many, rows = told.terms.many(), [show_deed(deed) for deed in told.deeds]
            whole = Log(told.terms)
            states = [all_told(whole.net(), many)]
            for row in rows:
                whole.do(row)
                states.append(all_told(whole.net(), many))
            net = Net(told.terms)
            for deed in told.deeds:
                do(net, deed)
            self.assertEqual(all_told(net, many), states[-1])
            for at in range(len(rows) + 1):
                text = "".join(f"{row}\n" for row in rows[:at])
                log = come_up(told.terms, text)
                self.assertEqual((log.text(), all_told(log.net(), many)), (text, states[at]))
                if at % 5 == 0:
                    for row in rows[at:]:
                        log.do(row)
                    self.assertEqual((log.text(), all_told(log.net(), many)), (whole.text(), states[-1]))

    def refused(self, text, at, terms=None):
        """The text is refused at a row."""
        with self.assertRaises(NoLog) as told:
            come_up(terms or row_terms(3), text)
        self.assertEqual(told.exception.at, at)
        self.assertTrue(is_own(told.exception.at))

    def test_the_first_row_that_is_no_deed(self):
        self.refused("x\n", 0)
        self.refused("\n", 0)
        self.refused("turn\n\nturn\n", 1)
        self.refused("turn\nturn\nturns\nx\n", 2)
        self.refused("turn\nturn \n", 1)
        self.refused("turn\r\nturn\n", 0)
        self.refused("turn\nturn dead 1 1\n", 1)

    def test_it_goes_ahead_of_one_that_is_refused(self):
        self.refused("turn dead 0\nend 7\nx\n", 2)
        self.refused("end 7\nturn\nx", 2)

    def test_the_first_that_is_refused(self):
        self.refused("turn dead 0\n", 0)
        self.refused("turn\nend 1\nturn dead 0\n", 1)
        self.refused("turn\nask 0 - 0 1 1 0\n", 1)
        self.refused("ask 0 - 0 1 1 0\n" * 5, 4)
        self.refused("turn\nturn lost 0,2\n", 1)
        self.refused("ask 0 - 0 1 1 0\nend 1\nchange 1 0 - 0 1 1 0\n", 2)

    def test_signs_behind_the_last_line_feed(self):
        self.refused("turn", 0)
        self.refused("turn\nturn", 1)
        self.refused(" ", 0)
        self.refused("turn\n ", 1)
        self.refused("turn dead 0\nturn", 1)
        self.refused("x\nturn", 0)

    def test_of_classes_beneath(self):
        for text in (Text, SlyText):
            log = come_up(row_terms(3), text("turn\nturn lost 1,0\n"))
            self.assertEqual((log.text(), log.net().turns()), ("turn\nturn lost 1,0\n", 2))
            self.refused(text("turn\nx\n"), 1)

    def test_all_are_refusals_of_the_field(self):
        for error in (NoLog, NoText):
            self.assertTrue(issubclass(error, FieldError))


if __name__ == "__main__":
    unittest.main()
