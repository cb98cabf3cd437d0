"""Point 49, and points 2 to 4 of it: what a desk is told, and answers."""

import random
import time
import unittest

from deeds import DEEDS, QUESTIONS, ROW, STRANGE, TERMS, Deeds
from fields import random_weather
from listenfield.desk import Desk
from listenfield.errors import NoAnswer, NoNumber, NoRow, NoText, TooMany, Unfit, Wrong
from listenfield.logs import Log, read_terms, show_deed, show_terms
from things import SlyText, Text, all_pairs, is_own, row_pairs


def desk_after(*rows, text=ROW):
    """A desk that was told some rows."""
    desk = Desk(text)
    for row in rows:
        desk.say(row)
    return desk


def full_desk():
    """A desk of four places in a row, one of which dies and cuts off another one, with an answer."""
    return desk_after("ask 0 - 1 3 3 2", "turn", "turn senses 0,0,10 1,0,-4 2,0,7 lost 1,0",
                      "turn dead 2 senses 3,0,9 lost 1,0", "turn lost 1,0", "turn lost 1,0", "turn lost 1,0")


class Opening(unittest.TestCase):

    def test_by_a_text_of_terms(self):
        self.assertEqual(Desk(TERMS).say("turns"), "0")

    def test_by_no_such_text(self):
        for thing in STRANGE + ["", "turn", TERMS + "\n", TERMS + " ", TERMS.replace("guard 40", "guard 4")]:
            with self.assertRaises(NoText):
                Desk(thing)


class Deed(unittest.TestCase):

    def test_they_are_done_and_answered(self):
        desk = Desk(ROW)
        for row, told in (("ask 0 - 0 1 1 9", "1"), ("turn", "ok"), ("ask 1 0,2 4 1 1 9", "2"),
                          ("change 1 3 - 4 1 1 9", "3"), ("end 3", "ok"), ("turn dead 3 senses 2,0,17 lost 1,0", "ok")):
            self.assertEqual(desk.say(row), told)
            self.assertTrue(is_own(desk.say("log")))
        self.assertEqual((desk.say("turns"), desk.say("questions 0"), desk.say("living")), ("2", "2", "0 1 2"))

    def test_refused_as_the_net_refuses(self):
        desk = desk_after("ask 0 - 0 1 1 9", "turn")
        log = desk.say("log")
        for row, error in (("turn dead 0", Unfit), ("turn lost 0,2", Unfit), ("end 2", NoNumber),
                           ("change 2 0 - 0 1 1 9", NoNumber), ("change 1 0 - 0 1 1 9", Wrong), ("ask 0 - 0 1 1 9",
                                                                                                 Wrong)):
            with self.assertRaises(error):
                desk.say(row)
            self.assertEqual(desk.say("log"), log)
        for _ in range(3):
            desk.say("ask 0 - 1 1 1 9")
        with self.assertRaises(TooMany):
            desk.say("ask 0 - 1 1 1 9")
        with self.assertRaises(NoNumber) as told:
            desk.say("end 1000000000")
        self.assertEqual(told.exception.number, 10 ** 9)


class Asked(unittest.TestCase):

    def test_ahead_of_all_turns(self):
        desk = Desk(ROW)
        self.assertEqual([desk.say(row) for row in ("turns", "living", "cut", "log", "questions 0", "left 0",
                                                    "left 3")],
                         ["0", "0 1 2 3", "none", "", "none", "-", "1000"])
        self.assertEqual([desk.say(f"level {at}") for at in range(4)], ["0", "-", "-", "-"])
        self.assertEqual([desk.say(f"head {at}") for at in range(4)], ["-"] * 4)
        self.assertEqual([desk.say(f"bound {at}") for at in range(4)], ["0"] * 4)

    def test_turns_and_places(self):
        desk = desk_after("ask 0 - 0 1 1 9", "ask 3 1 0 1 1 9", "turn", "turn lost 0,1", "turn lost 0,1")
        self.assertEqual([desk.say(f"level {at}") for at in range(4)], ["0", "1", "2", "3"])
        self.assertEqual([desk.say(f"head {at}") for at in range(4)], ["-", "0", "1", "2"])
        self.assertEqual([desk.say(f"bound {at}") for at in range(4)], ["0", "2", "2", "2"])
        self.assertEqual([desk.say(f"left {at}") for at in range(4)], ["-", "997", "997", "997"])
        self.assertEqual([desk.say(f"questions {at}") for at in range(4)], ["1 2"] * 4)
        self.assertEqual((desk.say("turns"), desk.say("living"), desk.say("cut")), ("3", "0 1 2 3", "none"))

    def test_the_dead_and_the_cut(self):
        desk = full_desk()
        self.assertEqual((desk.say("living"), desk.say("cut")), ("0 1 3", "3"))
        self.assertEqual([desk.say(f"level {at}") for at in range(4)], ["0", "1", "2", "-"])
        self.assertEqual([desk.say(f"head {at}") for at in range(4)], ["-", "0", "1", "-"])
        desk.say("turn dead 1 3")
        self.assertEqual((desk.say("living"), desk.say("cut")), ("0", "none"))

    def test_answers(self):
        desk = full_desk()
        self.assertEqual(desk.say("answer 1 0"), "5 1 10 10 10 10/1; 0.1")
        self.assertEqual(desk.say("lacks 1 0"), "1.1:1 2.1:1,2 3.2:3")
        self.assertEqual(desk.say("reasons 1 0"), "1.1:late 2.1:late 3.2:cut")
        desk = desk_after("ask 0 - 1 3 3 20", "turn", "turn senses 0,0,-10 1,0,-4 2,0,7", "turn senses 3,0,-5",
                          *["turn"] * 21)
        self.assertEqual(desk.say("answer 1 0"), "23 4 -12 -10 7 -3/1; 0.1 1.1 2.1 3.2")
        self.assertEqual((desk.say("lacks 1 0"), desk.say("reasons 1 0")), ("none", "none"))
        desk = desk_after("ask 0 - 1 3 3 9", "turn", "turn senses 0,0,1 1,0,-4", *["turn"] * 11)
        self.assertEqual(desk.say("answer 1 0"), "12 2 -3 -4 1 -3/2; 0.1 1.1")

    def test_an_answer_without_marks(self):
        desk = desk_after("ask 0 - 0 1 1 0", "turn")
        self.assertEqual(desk.say("answer 1 0"), "0 0 0 - - -; none")
        self.assertEqual((desk.say("lacks 1 0"), desk.say("reasons 1 0")), ("none", "none"))
        desk = desk_after("ask 0 - 0 1 1 0", "turn dead 1 2 3", "ask 3 0 2 1 1 0", "turn", "turn senses 0,3,0")
        self.assertEqual(desk.say("answer 2 0"), "2 1 0 0 0 0/1; 0.2")

    def test_the_bound_of_loss(self):
        desk = desk_after(*["turn lost 2,1"] * 2, *["turn"] * 2, *["turn lost 2,1"] * 4, "turn dead 3", "turn")
        told = {(first, last): desk.say(f"held {first} {last}") for last in range(10) for first in range(last + 1)}
        for (first, last), word in told.items():
            long = min(last, 7) - max(first, 4) + 1 >= 3
            self.assertEqual(word, "no" if long or first <= 8 <= last else "yes", (first, last))

    def test_the_log(self):
        rows = ["ask 0 - 0 1 1 9", "turn", "change 1 1 0,2 1 2 3 9", "turn senses 2,0,17 lost 1,0", "end 2"]
        desk = desk_after(*rows, *QUESTIONS[:7])
        self.assertEqual(desk.say("log"), "".join(f"{row}\n" for row in rows))

    def test_asking_changes_nothing(self):
        desk = full_desk()
        told = [desk.say(row) for row in QUESTIONS]
        self.assertEqual([desk.say(row) for row in QUESTIONS], told)
        self.assertTrue(is_own(told))
        for text in (Text, SlyText):
            self.assertEqual([desk.say(text(row)) for row in QUESTIONS], told)

    def test_as_the_net_tells(self):
        for seed in range(8):
            told = Deeds(seed, turns=25, poor=seed % 2 == 0)
            many, desk, log = told.terms.many(), Desk(show_terms(told.terms)), Log(told.terms)
            for deed in told.deeds:
                desk.say(show_deed(deed))
                log.do(show_deed(deed))
            net = log.net()
            self.assertEqual(desk.say("turns"), f"{net.turns()}")
            self.assertEqual(desk.say("log"), log.text())
            for at in range(many):
                place = net.place(at)
                level = place.levels.level()
                self.assertEqual(desk.say(f"level {at}"), f"{level}" if level < many else "-")
                self.assertEqual(desk.say(f"head {at}"), "-" if place.levels.head() is None else f"{place.levels.head()}")
                self.assertEqual(desk.say(f"bound {at}"), f"{place.clock.bound()}")
                self.assertEqual(desk.say(f"left {at}"), f"{place.store.left()}" if at else "-")
                known = " ".join(f"{question[0]}" for question in place.listed()[1])
                self.assertEqual(desk.say(f"questions {at}"), known or "none")
            for number, window, turn, marks, count, total, least, most, mean, lacks in net.answers():
                figures, named = desk.say(f"answer {number} {window}").split("; ")
                self.assertEqual(figures, " ".join(
                    [f"{part}" if part is not None else "-" for part in (turn, count, total, least, most)]
                    + [f"{mean[0]}/{mean[1]}" if mean else "-"]))
                self.assertEqual(named, " ".join(f"{place}.{when}" for place, when in marks) or "none")
                self.assertEqual(desk.say(f"lacks {number} {window}"), " ".join(
                    f"{place}.{when}:{','.join(map(str, rooms))}" for (place, when), rooms in lacks) or "none")
                self.assertEqual(desk.say(f"reasons {number} {window}"), " ".join(
                    f"{place}.{when}:{word}" for (place, when), word in net.reasons(number, window)) or "none")


class NoRows(unittest.TestCase):

    def refused(self, desk, row):
        """It is refused with NoRow, and changes nothing."""
        log = desk.say("log")
        with self.assertRaises(NoRow, msg=row):
            desk.say(row)
        self.assertEqual(desk.say("log"), log)

    def test_other_things(self):
        desk = full_desk()
        for thing in STRANGE + ["", " ", "\n", "w", "0", "-", "none", "ok", "Turns", "turn\n", TERMS, SlyText("turns "),
                                "rooms 1 0 1.1", "error 1", "items 1", "holders 1", "living 1", "place 1"]:
            self.refused(desk, thing)

    def test_a_blank_too_many_a_word_too_few(self):
        desk = full_desk()
        for row in QUESTIONS + [row for row, _ in DEEDS]:
            for other in (row + " ", " " + row, row.replace(" ", "  ", 1), row + "\n", row + " x", row + "\t",
                          row.upper(),
                          row + " 0 0 0"):
                if other != row:
                    self.refused(desk, other)
            if " " in row:
                self.refused(desk, row.rpartition(" ")[0])
                self.refused(desk, row.replace(" ", "\t", 1))

    def test_places_are_those_of_the_terms(self):
        desk = full_desk()
        for word in ("level", "head", "bound", "left", "questions"):
            desk.say(f"{word} 0")
            desk.say(f"{word} 3")
            for place in ("4", "9", "10", "-1", "-", "00", "01", "+1", "1,2", "x", "", "1.0", "\u0661", "1_0",
                          "9" * 5000):
                self.refused(desk, f"{word} {place}")

    def test_numbers_and_windows(self):
        desk = full_desk()
        for word in ("answer", "lacks", "reasons"):
            for number, window in (("0", "0"), ("-1", "0"), ("1000000001", "0"), ("1", "-1"), ("1", "1000000001"),
                                   ("01", "0"), ("1", "00"), ("x", "0"), ("1", "x"), ("1", "-"), ("", "0"), ("1", "")):
                self.refused(desk, f"{word} {number} {window}")
            self.refused(desk, f"{word} 1")
            self.refused(desk, word)
            self.refused(desk, f"{word} 1 0 0")

    def test_no_answer(self):
        desk = full_desk()
        for word in ("answer", "lacks", "reasons"):
            for number, window in ((1, 1), (2, 0), (10 ** 9, 0), (1, 10 ** 9), (10 ** 9, 10 ** 9)):
                with self.assertRaises(NoAnswer) as told:
                    desk.say(f"{word} {number} {window}")
                self.assertEqual((told.exception.number, told.exception.window), (number, window))

    def test_turns_that_were_done(self):
        desk = full_desk()
        self.assertEqual(desk.say("turns"), "6")
        desk.say("held 0 5")
        desk.say("held 5 5")
        for row in ("held 0 6", "held 6 6", "held 3 2", "held 5 0", "held -1 2", "held 0 -1", "held 0", "held",
                    "held 0 1 2",
                    "held 00 1", "held 0 01", "held x 1", "held 0 x", "held 0 1000001"):
            self.refused(desk, row)
        self.refused(Desk(ROW), "held 0 0")

    def test_deeds_beyond_their_bounds(self):
        desk = full_desk()
        for row in ("end 0", "end 1000000001", "end 01", "ask 10 - 9 1 1 0", "ask 0 - 9 1 3 0", "ask 0 10 9 1 1 0",
                    "ask 0 - 1000001 1 1 0", "change 0 0 - 9 1 1 0", "change 1000000001 0 - 9 1 1 0", "turn dead", "turn dead 10",
                    "turn lost 1,0 0,1", "turn dead 1 1"):
            self.refused(desk, row)
        self.assertEqual(desk.say("change 1 0 - 1000000 1 1 0"), "2")


class InTime(unittest.TestCase):

    def test_ten_places_sixty_turns_asked_all_behind_each(self):
        began = time.monotonic()
        for pairs in (row_pairs(10), all_pairs(10)):
            rng = random.Random(1)
            places = " ".join(["0,0,0,1000000000,w"] * 9)
            written = " ".join(f"{one},{other}" for one, other in pairs)
            text = f"places 10 pairs {written} quiet 3 drift 1 jitter 1 guard 60 listen 1 speak 1 item 1 {places}"
            desk, terms = Desk(text), read_terms(text)
            for sort in (0, 1, 0, 1):
                desk.say(f"ask {sort} - 0 2 4 20")
            for turn in range(60):
                desk.say(show_deed(("turn", random_weather(rng, terms, rough=0.2, sense=1.0))))
                for row in ["turns", "living", "cut", f"held 0 {turn}", "log"] + [
                        f"{word} {at}" for at in range(10) for word in ("level", "head", "bound", "left", "questions")]:
                    desk.say(row)
                for window in range(max(0, (turn - 21) // 2)):
                    for number in range(1, 5):
                        for word in ("answer", "lacks", "reasons"):
                            desk.say(f"{word} {number} {window}")
        # A few seconds at most; it is far less where nothing else is done.
        self.assertLess(time.monotonic() - began, 30)


if __name__ == "__main__":
    unittest.main()
