import unittest

from fittingpasts.calendars import Calendar
from fittingpasts.errors import InvalidCalendar, InvalidText, OutOfRange, TooMany, UnknownName
from tests.helpers import BIG, Case

WEEK = ("week", 7, 3)
MONTH = ("month", 4, 0)
YEAR = ("year", 60, 59)
MOON = ("moon", 1, 0)


class MakingTest(Case):
    def test_example_of_the_interface(self):
        calendar = Calendar([WEEK, MONTH])
        found = [calendar.date_of(5), calendar.period, calendar.next_with(6, week=0), str(calendar + 1)]
        self.assertEqual(found, [(1, 1), 28, 11, "week 7 2, month 4 3"])

    def test_cycles_are_kept_as_a_tuple(self):
        given = [WEEK, MONTH, YEAR, MOON]
        calendar = Calendar(given)
        given.pop()
        self.assertEqual(calendar.cycles, (WEEK, MONTH, YEAR, MOON))
        self.assertEqual(Calendar(cycles=()).cycles, ())
        self.assertEqual(Calendar((WEEK,)), Calendar([WEEK]))
        self.assertEqual(Calendar([list(WEEK)]), Calendar([WEEK]))

    def test_more_than_four_cycles(self):
        self.assert_fails(TooMany(4), lambda: Calendar([WEEK, MONTH, YEAR, MOON, ("day", 2, 0)]))
        self.assert_fails(TooMany(4), lambda: Calendar([("", 0, 0)] * 5))

    def test_invalid_triples(self):
        wrong = [
            ("", 7, 3), ("or", 7, 3), ("Week", 7, 3), ("a week", 7, 3), ("weekdays" + "x", 7, 3), ("wk1", 7, 3),
            ("w\u00e4k", 7, 3), ("a", 0, 0), ("a", 61, 0), ("a", -1, 0), ("a", 7, 7), ("a", 7, -1), ("a", BIG, 0),
        ]
        for triple in wrong:
            self.assert_fails(InvalidCalendar(0), lambda: Calendar([triple]))
            self.assert_fails(InvalidCalendar(1), lambda: Calendar([WEEK, triple, triple]))
        self.assert_fails(InvalidCalendar(2), lambda: Calendar([WEEK, MONTH, ("week", 5, 0)]))
        self.assert_fails(InvalidCalendar(1), lambda: Calendar([WEEK, WEEK, ("a", 0, 0)]))

    def test_names_and_lengths_at_the_edge(self):
        calendar = Calendar([("weekdays", 60, 59), ("a", 1, 0)])
        self.assertEqual(calendar["weekdays"], (60, 59))

    def test_equality(self):
        self.assertEqual(Calendar([WEEK, MONTH]), Calendar((WEEK, MONTH)))
        self.assertNotEqual(Calendar([WEEK, MONTH]), Calendar([MONTH, WEEK]))
        self.assertNotEqual(Calendar([WEEK]), Calendar([("week", 7, 4)]))
        self.assertFalse(Calendar([]) == ())


class AskingTest(Case):
    def setUp(self):
        self.calendar = Calendar([WEEK, MONTH])

    def test_items(self):
        self.assertEqual(self.calendar["week"], (7, 3))
        self.assertEqual(self.calendar["month"], (4, 0))
        for name in ("year", "", "Week"):
            self.assert_fails(UnknownName(name), lambda: self.calendar[name])
        with self.assertRaises(TypeError):
            list(self.calendar)

    def test_dates_and_places(self):
        for day in (-29, -1, 0, 5, 28 * BIG + 5, -28 * BIG):
            date = ((day + 3) % 7, day % 4)
            self.assertEqual(self.calendar.date_of(day), date)
            self.assertEqual(self.calendar.place_of("week", day), date[0])
            self.assertEqual(self.calendar.place_of(name="month", day=day), date[1])
        self.assertEqual(Calendar([MONTH, WEEK]).date_of(5), (1, 1))
        self.assertEqual(Calendar([]).date_of(5), ())
        self.assert_fails(UnknownName("year"), lambda: self.calendar.place_of("year", 1))

    def test_next_with(self):
        for start in (-30, 0, 6, 28 * BIG):
            for week in range(7):
                for month in range(4):
                    walk = [day for day in range(start, start + 28) if self.calendar.date_of(day) == (week, month)]
                    self.assertEqual(self.calendar.next_with(start, week=week, month=month), walk[0])
                    self.assertEqual(self.calendar.next_with(start, month=month, week=week), walk[0])
            self.assertEqual(self.calendar.next_with(start), start)
        self.assertEqual(self.calendar.next_with(start=6, week=0), 11)

    def test_next_with_places_that_no_day_shows_together(self):
        calendar = Calendar([("a", 2, 0), ("b", 4, 0), ("c", 3, 0)])
        self.assertIsNone(calendar.next_with(0, a=0, b=1))
        self.assert_fails(OutOfRange(3), lambda: calendar.next_with(0, a=0, b=1, c=3))

    def test_next_with_errors_in_ascending_order_of_the_keywords(self):
        next_with = self.calendar.next_with
        self.assert_fails(UnknownName("aa"), lambda: next_with(0, zz=1, week=9, aa=1))
        self.assert_fails(UnknownName("zz"), lambda: next_with(0, week=9, zz=1, month=-1))
        self.assert_fails(OutOfRange(-1), lambda: next_with(0, week=9, month=-1))
        self.assert_fails(OutOfRange(7), lambda: next_with(0, week=7, month=1))

    def test_period(self):
        self.assertEqual(Calendar([]).period, 1)
        self.assertEqual(Calendar([("a", 12, 0), ("b", 18, 17), MOON]).period, 36)
        self.assertEqual(Calendar([("a", 59, 0), ("b", 58, 0), ("c", 57, 0), ("d", 55, 0)]).period, 59 * 58 * 57 * 55)

    def test_plus(self):
        for many in (-30, -1, 0, 1, 9, BIG, -BIG):
            later = self.calendar + many
            for day in range(-9, 9):
                self.assertEqual(later.date_of(day + many), self.calendar.date_of(day))
        self.assertEqual(self.calendar.cycles, (WEEK, MONTH))


class TextTest(Case):
    def test_text_and_back(self):
        for cycles in ([], [WEEK], [WEEK, MONTH], [YEAR, MOON, WEEK, MONTH]):
            calendar = Calendar(cycles)
            self.assertEqual(str(calendar), ", ".join(f"{n} {length} {shift}" for n, length, shift in cycles))
            self.assertEqual(Calendar.read(str(calendar)), calendar)
        self.assertEqual(Calendar.read(text="week 7 3").cycles, (WEEK,))
        self.assertEqual(Calendar.read("").cycles, ())

    def test_texts_that_miss_the_form(self):
        wrong = [
            " ", "week", "week 7", "week 7 3 ", " week 7 3", "week  7 3", "week 7  3", "week 7 3,", "week 7 3, ",
            "week 7 3,month 4 0", "week 7 3,  month 4 0", "week 7 3 , month 4 0", ", week 7 3", "week 07 3",
            "week 7 03", "week 7 00", "week 7 -3", "week +7 3", "week 70000 3", "week 7 12345", "week 7 3 1",
            "Week 7 3", "or 7 3", "weekdayss 7 3", "w1 7 3", "7 week 3", "week 7 3\n", "week 7\n3", "week\t7 3",
            "week 7 x", "week 7 3; month 4 0", "week 7 3, , month 4 0", "week 7_0 3", "week \u0667 3", "week 7 \u00b2",
            "week 1 0\r", "week 7 3.", "week 7 0x1", "week 7 3, month 4", "week 7 3, or 4 0", "w\u00e4k 7 3",
        ]
        for text in wrong:
            self.assert_fails(InvalidText(text), lambda: Calendar.read(text))

    def test_texts_of_calendars_that_are_wrong(self):
        self.assert_fails(InvalidCalendar(0), lambda: Calendar.read("week 0 0"))
        self.assert_fails(InvalidCalendar(1), lambda: Calendar.read("week 7 3, month 9999 9998"))
        self.assert_fails(InvalidCalendar(1), lambda: Calendar.read("week 7 3, week 7 3"))
        self.assert_fails(InvalidCalendar(0), lambda: Calendar.read("week 7 7"))
        five = "a 1 0, b 1 0, c 1 0, d 1 0, e 1 0"
        self.assert_fails(TooMany(4), lambda: Calendar.read(five))
        self.assert_fails(TooMany(4), lambda: Calendar.read(five.replace("b", "a")))
        self.assert_fails(InvalidText(five + ","), lambda: Calendar.read(five + ","))
        clash = "week 7 9, month 4 00"
        self.assert_fails(InvalidText(clash), lambda: Calendar.read(clash))


if __name__ == "__main__":
    unittest.main()
