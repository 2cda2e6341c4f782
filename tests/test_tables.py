import unittest

from fittingpasts.closing import close
from fittingpasts.frames import Frame
from fittingpasts.lots import Lot
from fittingpasts.past import Past
from fittingpasts.statements import OnDay
from fittingpasts.tables import lot_table, past_table
from fittingpasts.variables import variables
from tests.helpers import Case, Numbers
from tests.houses import FULL, PAIR, irregular_frames, irregular_values
from tests.papers import GREAT, some_lot

LONG = Frame(
    ("a", "abcdefgh"), ("p", "ijklmnop"), [("a", ("p", "ijklmnop"))], [("week", 10, 12)], ("m", "size"),
    [("r", "a", (1, 2)), ("qrstuvwx", "a", (3, 4))], [("x", ("r", "qrstuvwx"))], last=12,
)


class LotTableTest(Case):
    def test_example_of_the_interface(self):
        lot = close(Frame(("fire", "feast"), last=4), [OnDay("feast", 3, 3)])
        self.assertEqual(lot_table(lot), ["day     fire        5", "day     feast       1 3"])

    def test_rows_of_many_values(self):
        self.assertEqual(lot_table(lot=Lot(LONG)), [
            "day     a          13", "day     abcdefgh   13", "stay    p          91", "stay    ijklmnop   91",
            "begin               2", "source  p           3", "source  ijklmnop    3", "heard   p          14",
            "heard   ijklmnop   14", "cycle   week       33", "rule    x          48", "astray  x           3",
        ])
        self.assertEqual(lot_table(Lot(GREAT))[8], "stay    ann       231")

    def test_rows_of_one_value(self):
        values = (
            12, 0, (3, 12), (0, 0), "ijklmnop", (), ("p", "a"), 13, 0, (10, 9), ((1, -1), (2, 1), (0, 1)), "qrstuvwx",
        )
        self.assertEqual(lot_table(Lot(LONG, [[value] for value in values])), [
            "day     a           1 12", "day     abcdefgh    1 0", "stay    p           1 3 12",
            "stay    ijklmnop    1 0 0", "begin               1 ijklmnop", "source  p           1",
            "source  ijklmnop    1 p a", "heard   p           1 13", "heard   ijklmnop    1 0",
            "cycle   week        1 10 9", "rule    x           1 1- 2+ 0+", "astray  x           1 qrstuvwx",
        ])
        none = Lot(LONG).only(("astray", "x"), "").only(("source", "p"), ("p",))
        self.assertEqual([lot_table(none)[-1], lot_table(none)[5]], ["astray  x           1", "source  p           1 p"])

    def test_rows_without_values(self):
        for line in lot_table(Lot.of(LONG)):
            self.assertEqual((line[17:], len(line)), ("   0", 21))

    def test_the_words_are_those_of_pasts(self):
        numbers = Numbers(5)
        for frame in irregular_frames(8, 40):
            past = Past(frame, irregular_values(numbers, frame))
            lot = some_lot(numbers, frame) | Lot.of(frame, past)
            lines = lot_table(lot)
            for at, (variable, row) in enumerate(zip(variables(frame), lot.rows)):
                kind, name = variable
                start = f"{kind:<7} {name:<8} {len(row):>4}"
                self.assertTrue(lines[at].startswith(start))
                words = str(past).split("\n")[at].split(" ")[2 if name else 1:]
                self.assertEqual(lines[at][len(start):], "".join(" " + word for word in words if len(row) == 1))
                self.assertEqual(lines[at], lines[at].rstrip(" "))


class PastTableTest(Case):
    def test_days_events_and_people(self):
        past = Past(PAIR, [3, 3, (0, 4), (4, 4), "ann", ("ann",), (), 0, 7])
        self.assertEqual(past_table(past=past), [
            " 0 .................... ann", " 1 .................... ann", " 2 .................... ann",
            " 3 fire,feast.......... ann", " 4 .................... ann,ben", " 5 .................... -",
            " 6 .................... -",
        ])

    def test_days_of_two_digits_and_long_rows(self):
        events = ("abcdefgh", "ijklmnop", "qrstuvwx", "a", "b")
        past = Past(Frame(events, last=11), [10, 10, 10, 9, 9])
        self.assertEqual(past_table(past)[8:], [
            " 8 .................... -", " 9 a,b................. -", "10 abcdefgh,ijklmnop,qrstuvwx -",
            "11 .................... -",
        ])
        exact = Past(Frame(("abcdefgh", "ijklmnop", "ab"), last=1), [1, 1, 1])
        self.assertEqual(past_table(exact)[1], " 1 abcdefgh,ijklmnop,ab -")
        self.assertEqual(past_table(Past(exact.frame, [0, 1, 1]))[1], " 1 ijklmnop,ab......... -")

    def test_against_the_past(self):
        numbers = Numbers(6)
        for frame in irregular_frames(9, 30):
            past = Past(frame, irregular_values(numbers, frame))
            lines = past_table(past)
            self.assertEqual(len(lines), frame.last + 1)
            for day, line in enumerate(lines):
                self.assertEqual(line[:3], f"{day:>2} ")
                events, people = line[3:].split(" ")
                self.assertGreaterEqual(len(events), 20)
                found = [event for event in events.rstrip(".").split(",") if event]
                self.assertEqual(found, [event for event in frame.events if past.day_of(event) == day])
                here = [person for person in frame.people if day in past.stay_of(person)]
                self.assertEqual(people, ",".join(here) or "-")

    def test_lists_are_new(self):
        past = Past(FULL, irregular_values(Numbers(1), FULL))
        past_table(past).clear()
        self.assertEqual(len(past_table(past)), 5)
        lot_table(Lot(FULL)).clear()
        self.assertEqual(len(lot_table(Lot(FULL))), 19)


if __name__ == "__main__":
    unittest.main()
