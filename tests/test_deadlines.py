import unittest

from fittingpasts.deadlines import carriers, deadlines
from fittingpasts.errors import OutOfRange, UnknownName
from fittingpasts.timetables import Timetable
from tests.helpers import BIG, Case
from tests.tellings import SAMPLES, all_ways, example, led_to

# From ann the news goes to ben on day 2, and from there to cid on day 4; ann and cid never meet.
LINE = Timetable(("cid", "ann", "ben", "dot"), [((2, 5), ("ann", "ben")), ((1, 4), ("ben", "cid"))])


def greatest_day(table, other, person, by):
    """The greatest day such that a way from the other person that begins behind it arrives in time."""
    days = [by] if other == person else []
    for way in all_ways(table, other):
        if way and led_to(way, other)[0] == person and led_to(way, other)[1] <= by:
            days.append(way[0][0] - 1)
    return max(days, default=None)


def on_ways(table, begin, person, by):
    """Who has the news on some way that arrives in time."""
    found = []
    for way in all_ways(table, begin):
        last, day = led_to(way, begin)
        if last == person and day <= by:
            found += [begin, *[step[3] for step in way]]
    return [name for name in table.people if name in found]


class DeadlinesTest(Case):
    def test_example_of_the_interface(self):
        self.assertEqual(deadlines(example(), "cid", 5), [("ann", 0), ("ben", 1), ("cid", 5)])

    def test_against_all_ways(self):
        late = 0
        for table in SAMPLES:
            for person in table.people:
                for by in (0, 1, 3, 5, 9):
                    days = [(name, greatest_day(table, name, person, by)) for name in table.people]
                    days = [(name, day) for name, day in days if day is not None]
                    self.assertEqual(deadlines(table, person, by), days)
                    late += len(days) > 2
        self.assertGreater(late, 50)

    def test_the_day_is_in_time(self):
        self.assertEqual(deadlines(LINE, "cid", 5), [("cid", 5), ("ann", 1), ("ben", 3)])
        self.assertEqual(deadlines(LINE, "cid", 4), [("cid", 4), ("ann", 1), ("ben", 3)])
        self.assertEqual(deadlines(LINE, "cid", 3), [("cid", 3), ("ben", 0)])
        self.assertEqual(deadlines(LINE, "ann", BIG), [("cid", 3), ("ann", BIG), ("ben", 4)])
        self.assertEqual(deadlines(timetable=LINE, person="dot", by=0), [("dot", 0)])
        self.assertEqual(deadlines(LINE, "cid", 0), [("cid", 0)])

    def test_nothing_is_told_on_day_zero(self):
        table = Timetable(("ann", "ben"), [((0, 3), ("ann", "ben"))])
        self.assertEqual(deadlines(table, "ben", 2), [("ben", 2)])
        self.assertEqual(deadlines(table, "ben", 3), [("ann", 2), ("ben", 3)])

    def test_nobody_passes_the_news_on_on_the_day_of_hearing_it(self):
        table = Timetable(("ann", "ben", "cid"), [((3,), ("ann", "ben")), ((3, 4), ("ben", "cid"))])
        self.assertEqual(deadlines(table, "cid", 3), [("ben", 2), ("cid", 3)])
        self.assertEqual(deadlines(table, "cid", 4), [("ann", 2), ("ben", 3), ("cid", 4)])

    def test_days_of_18_digits(self):
        table = Timetable(("ann", "ben"), [((BIG,), ("ann", "ben"))])
        self.assertEqual(deadlines(table, "ann", BIG), [("ann", BIG), ("ben", BIG - 1)])
        self.assertEqual(deadlines(table, "ann", BIG - 1), [("ann", BIG - 1)])

    def test_days_far_apart(self):
        people = tuple("abcdefgh")
        days = (1, 2, 900, 1000, 10 ** 6, 10 ** 9, BIG)
        table = Timetable(people, [((day,), people[at:at + 2]) for at, day in enumerate(days)])
        self.assertEqual(deadlines(table, "h", BIG), [
            ("a", 0), ("b", 1), ("c", 899), ("d", 999), ("e", 10 ** 6 - 1), ("f", 10 ** 9 - 1), ("g", BIG - 1),
            ("h", BIG),
        ])

    def test_errors(self):
        self.assert_fails(UnknownName("eve"), lambda: deadlines(LINE, "eve", -1))
        self.assert_fails(OutOfRange(-1), lambda: deadlines(LINE, "ann", -1))
        self.assert_fails(OutOfRange(-BIG), lambda: deadlines(LINE, "ann", -BIG))


class CarriersTest(Case):
    def test_against_all_ways(self):
        several = 0
        for table in SAMPLES:
            for begin in table.people:
                for person in table.people:
                    for by in (0, 2, 3, 5):
                        found = carriers(table, begin, person, by)
                        self.assertEqual(found, on_ways(table, begin, person, by))
                        several += len(found) > 2
        self.assertGreater(several, 30)

    def test_a_way_that_comes_to_the_person_goes_on_and_comes_back(self):
        table = Timetable(
            ("ann", "ben", "cid", "dot"), [((1,), ("ann", "ben")), ((2, 4), ("ben", "cid")), ((4,), ("cid", "dot"))]
        )
        self.assertEqual(carriers(table, "ann", "ben", 3), ["ann", "ben"])
        self.assertEqual(carriers(table, "ann", "ben", 4), ["ann", "ben", "cid"])

    def test_begin_is_the_person(self):
        self.assertEqual(carriers(LINE, "ann", "ann", 0), ["ann"])
        self.assertEqual(carriers(LINE, "ann", "ann", 4), ["ann"])
        self.assertEqual(carriers(LINE, "ann", "ann", 5), ["ann", "ben"])
        table = Timetable(("ann", "ben", "cid"), [((1, 4), ("ann", "ben")), ((2, 3), ("ben", "cid"))])
        self.assertEqual(carriers(table, "ann", "ann", 3), ["ann"])
        self.assertEqual(carriers(timetable=table, begin="ann", person="ann", by=4), ["ann", "ben", "cid"])

    def test_no_such_way(self):
        self.assertEqual(carriers(LINE, "ann", "dot", 9), [])
        self.assertEqual(carriers(LINE, "ann", "cid", 3), [])
        self.assertEqual(carriers(LINE, "ann", "cid", 0), [])
        self.assertEqual(carriers(LINE, "ann", "cid", 4), ["cid", "ann", "ben"])

    def test_errors(self):
        self.assert_fails(UnknownName("eve"), lambda: carriers(LINE, "eve", "fay", -1))
        self.assert_fails(UnknownName("fay"), lambda: carriers(LINE, "ann", "fay", -1))
        self.assert_fails(OutOfRange(-1), lambda: carriers(LINE, "ann", "dot", -1))
        self.assert_fails(OutOfRange(-BIG), lambda: carriers(LINE, "ann", "ann", -BIG))

    def test_lists_are_new(self):
        for call in (lambda: carriers(LINE, "ann", "cid", 4), lambda: deadlines(LINE, "cid", 4)):
            found = call()
            found.clear()
            self.assertEqual(len(call()), 3)


if __name__ == "__main__":
    unittest.main()
