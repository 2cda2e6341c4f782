import unittest

from fittingpasts.errors import Duplicate, InvalidMeeting, TooMany, UnknownName
from fittingpasts.timetables import Timetable, arrivals
from tests.helpers import BIG, Case, Numbers

PEOPLE = ("ann", "ben", "cid", "dot")


def example():
    return Timetable(("ann", "ben", "cid"), [((1, 3), ("ann", "ben")), ((2,), ("ben", "cid"))])


def walk(timetable, begin, silent):
    """Who knows the news, day by day: only who knew it in the evening before can tell it."""
    known = {begin: 0}
    days = [day for meeting in timetable.meetings for day in meeting[0]]
    for day in range(1, max(days, default=0) + 1):
        evening = dict(known)
        for met, guests in timetable.meetings:
            for teller in guests:
                for hearer in guests:
                    if day in met and teller in evening and teller not in silent and hearer not in known:
                        known[hearer] = day
    return sorted(
        [(day, person) for person, day in known.items()],
        key=lambda pair: (pair[0], timetable.people.index(pair[1])),
    )


def samples():
    numbers = Numbers(31)
    rows = []
    for _ in range(150):
        people = ("dot", "", "ann", "Ben B", "eve")[:numbers.between(2, 5)]
        meetings = []
        for _ in range(numbers.between(0, 6)):
            guests = [person for person in people[::-1] if numbers.below(2)]
            days = sorted({numbers.below(8) for _ in range(numbers.between(1, 3))})
            if len(guests) > 1:
                meetings.append((days, guests))
        silent = [person for person in people if numbers.below(4) == 0]
        rows.append((Timetable(people, meetings), silent))
    return rows


SAMPLES = samples()


class MakingTest(Case):
    def test_attributes_are_tuples_and_copies(self):
        people, days, guests = ["ann", "ben"], [0, 4], ["ben", "ann"]
        meetings = [(days, guests)]
        table = Timetable(people, meetings)
        for row in (people, days, guests, meetings):
            row.clear()
        self.assertEqual(table.people, ("ann", "ben"))
        self.assertEqual(table.meetings, (((0, 4), ("ben", "ann")),))
        self.assertEqual(Timetable(people=(), meetings=()).meetings, ())

    def test_equality(self):
        self.assertEqual(example(), example())
        self.assertNotEqual(example(), Timetable(("ann", "cid", "ben"), example().meetings))
        self.assertNotEqual(example(), Timetable(("ann", "ben", "cid"), example().meetings[::-1]))
        self.assertFalse(example() == example().people)

    def test_eight_people_and_twelve_meetings(self):
        eight = tuple("abcdefgh")
        met = [((BIG,), ("a", "h"))] * 12
        self.assertEqual(len(Timetable(eight, met).meetings), 12)
        self.assert_fails(TooMany(8), lambda: Timetable((*eight, "i"), met))
        self.assert_fails(TooMany(8), lambda: Timetable(("a",) * 9, met * 2))
        self.assert_fails(Duplicate("a"), lambda: Timetable(("b", "a", "a", "b"), [((), ())] * 13))
        self.assert_fails(TooMany(12), lambda: Timetable(eight, met + [((), ())]))

    def test_invalid_meetings(self):
        right = ([1], ["ann", "ben"])
        for wrong in (
            ((), ("ann", "ben")), ((-1,), ("ann", "ben")), ((-1, 2), ("ann", "ben")), ((2, 1), ("ann", "ben")),
            ((1, 1), ("ann", "ben")), ((1, 3, 2), ("ann", "ben")), ((1, 3, 3), ("ann", "ben")), ((1,), ()),
            ((1,), ("ann",)), ((1,), ("ann", "ann")), ((1,), ("ann", "ben", "ann")), ((1,), ("ann", "eve")),
            ((1,), ("eve", "ann", "ben")), ((1,), ("ann", "")), ((-BIG, BIG), ("ann", "ben")),
        ):
            self.assert_fails(InvalidMeeting(0), lambda: Timetable(PEOPLE, [wrong, right]))
            self.assert_fails(InvalidMeeting(2), lambda: Timetable(PEOPLE, [right, right, wrong, wrong]))

    def test_meetings_at_the_edge(self):
        table = Timetable(("", "ann"), [((0,), ("ann", "")), ((0, BIG), ("", "ann")), ((0,), ("ann", ""))])
        self.assertEqual(len(table.meetings), 3)


class ArrivalsTest(Case):
    def test_example_of_the_interface(self):
        table = example()
        self.assertEqual(list(arrivals(table, "ann")), [(0, "ann"), (1, "ben"), (2, "cid")])
        self.assertEqual(list(arrivals(table, "cid")), [(0, "cid"), (2, "ben"), (3, "ann")])

    def test_against_a_walk_day_by_day(self):
        for table, silent in SAMPLES:
            for begin in table.people:
                self.assertEqual(list(arrivals(table, begin)), walk(table, begin, ()))
                self.assertEqual(list(arrivals(table, begin, silent=silent)), walk(table, begin, silent))
                twice = tuple(silent) * 2
                self.assertEqual(list(arrivals(timetable=table, begin=begin, silent=twice)), walk(table, begin, silent))

    def test_nothing_is_told_on_day_zero(self):
        self.assertEqual(list(arrivals(Timetable(PEOPLE, [((0,), PEOPLE)]), "ben")), [(0, "ben")])
        table = Timetable(PEOPLE, [((0, 5), ("ann", "ben"))])
        self.assertEqual(list(arrivals(table, "ann")), [(0, "ann"), (5, "ben")])

    def test_nobody_passes_the_news_on_on_the_day_of_hearing_it(self):
        meetings = [((1,), ("ann", "ben")), ((1,), ("ben", "cid"))]
        self.assertEqual(list(arrivals(Timetable(PEOPLE, meetings), "ann")), [(0, "ann"), (1, "ben")])
        later = meetings + [((2,), ("ben", "cid"))]
        self.assertEqual(list(arrivals(Timetable(PEOPLE, later), "ann")), [(0, "ann"), (1, "ben"), (2, "cid")])

    def test_the_order_is_by_day_then_by_people(self):
        table = Timetable(PEOPLE, [((2,), ("dot", "ann")), ((2,), ("cid", "dot")), ((1,), ("ben", "dot"))])
        self.assertEqual(list(arrivals(table, "dot")), [(0, "dot"), (1, "ben"), (2, "ann"), (2, "cid")])

    def test_days_of_18_digits(self):
        table = Timetable(PEOPLE, [((3, BIG), ("ann", "ben")), ((BIG - 1, BIG + 1), ("ben", "cid"))])
        self.assertEqual(list(arrivals(table, "cid")), [(0, "cid"), (BIG - 1, "ben"), (BIG, "ann")])

    def test_silent_people(self):
        table = example()
        self.assertEqual(list(arrivals(table, "ann", silent=["ben"])), [(0, "ann"), (1, "ben")])
        self.assertEqual(list(arrivals(table, "ann", silent=("ann",))), [(0, "ann")])
        self.assertEqual(list(arrivals(table, "ann", silent=("ann", "ann", "ben"))), [(0, "ann")])
        self.assertEqual(list(arrivals(table, "ann", silent=("cid",))), list(arrivals(table, "ann")))

    def test_unknown_names_are_raised_when_it_is_iterated(self):
        for begin, silent, name in (
            ("eve", (), "eve"), ("eve", ("fay",), "eve"), ("ann", ("ben", "gus", "fay"), "gus"), ("", ("ann",), ""),
        ):
            news = arrivals(example(), begin, silent=silent)
            self.assert_fails(UnknownName(name), lambda: next(news))

    def test_pairs_come_as_soon_as_asked_for_and_nothing_is_changed(self):
        table, silent = example(), ["cid"]
        news, again = arrivals(table, "ann", silent=silent), arrivals(table, "ann", silent=silent)
        self.assertEqual([next(news), next(again), next(again)], [(0, "ann"), (0, "ann"), (1, "ben")])
        silent.append("ben")
        self.assertEqual(list(news), [(1, "ben"), (2, "cid")])
        self.assertEqual(table, example())


if __name__ == "__main__":
    unittest.main()
