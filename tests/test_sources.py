import unittest
from itertools import product

from fittingpasts.errors import InvalidSource, NeverHeard, UnknownName
from fittingpasts.sources import beginners, heard_days, trace
from fittingpasts.timetables import Timetable
from fittingpasts.ways import judge_way
from tests.helpers import BIG, Case
from tests.tellings import SAMPLES, example

TABLE = Timetable(
    ("ann", "ben", "cid", "dot"),
    [((1, 3), ("ann", "ben")), ((2,), ("cid", "ben", "ann")), ((0,), ("ann", "dot")), ((2, 9), ("dot", "cid"))],
)


def form_day(table, entry):
    """The day on which somebody with this entry hears, by its form."""
    if len(entry) == 1:
        return 0
    if len(entry) == 2 and isinstance(entry[1], int) and 0 <= entry[1] < len(table.meetings):
        return min(table.meetings[entry[1]][0])
    return None


def first_wrong(table, sources):
    """The first person whose entry is wrong, by the words of point 51."""
    for person, entry in zip(table.people, sources):
        if entry == () or entry == (person,):
            continue
        day = form_day(table, entry)
        if len(entry) != 2 or day is None:
            return person
        guests = table.meetings[entry[1]][1]
        if entry[0] == person or entry[0] not in guests or person not in guests:
            return person
        told = form_day(table, sources[table.people.index(entry[0])])
        if told is None or not told < day:
            return person
    return None


class HeardDaysTest(Case):
    def right(self, *sources):
        return heard_days(TABLE, sources)

    def wrong(self, name, *sources):
        self.assert_fails(InvalidSource(name), lambda: heard_days(TABLE, sources))

    def test_example_of_the_interface(self):
        sources = (("ann",), ("ann", 0), ("ben", 1))
        self.assertEqual(heard_days(example(), sources), (0, 1, 2))
        self.assertEqual(trace(example(), sources, "cid"), ((1, 0, "ann", "ben"), (2, 1, "ben", "cid")))

    def test_all_sources_of_small_timetables(self):
        right = 0
        for table in [table for table in SAMPLES if len(table.people) == 3 and len(table.meetings) < 4]:
            entries = [(), *[(name,) for name in table.people]]
            entries += [(name, at) for name in table.people for at in range(-1, len(table.meetings) + 1)]
            for sources in product(entries, repeat=3):
                name = first_wrong(table, sources)
                if name is None:
                    days = tuple(form_day(table, entry) for entry in sources)
                    self.assertEqual(heard_days(table, sources), days)
                    right += sources.count(()) == 0
                else:
                    self.assert_fails(InvalidSource(name), lambda: heard_days(table, sources))
        self.assertGreater(right, 100)

    def test_nobody_and_everybody(self):
        self.assertEqual(self.right((), (), (), ()), (None, None, None, None))
        self.assertEqual(self.right(("ann",), ("ben",), ("cid",), ("dot",)), (0, 0, 0, 0))
        self.assertEqual(heard_days(Timetable((), ()), ()), ())
        self.assertEqual(heard_days(timetable=TABLE, sources=[(), (), (), ("dot",)]), (None, None, None, 0))

    def test_only_the_first_day_of_a_meeting_counts(self):
        self.assertEqual(self.right(("ann",), ("ann", 0), ("ann", 1), ()), (0, 1, 2, None))
        # cid hears on day 2, and the meeting with dot is on day 2 for all that counts, not on day 9.
        self.wrong("dot", ("ann",), (), ("ann", 1), ("cid", 3))
        self.assertEqual(self.right((), (), ("cid",), ("cid", 3)), (None, None, 0, 2))
        self.assertEqual(self.right(("ben", 0), ("ben",), ("ann", 1), ()), (1, 0, 2, None))

    def test_wrong_forms(self):
        for entry in (
            ("ben",), ("",), (0,), ("ben", 0, 1), ("ben", 0, 0, 0), ("ben", -1), ("ben", 4), ("ben", -4), ("ben", BIG),
            ("ben", "0"), ("ben", "ann"), (0, "ben"), (0, 0), (1, 0), ("ann", 0), ("cid", 0), ("eve", 0), ("dot", 3),
            ("dot", 0),
        ):
            self.wrong("ann", entry, ("ben",), ("cid",), ("dot",))
        self.assertEqual(self.right(("ben", 0), ("ben",), ("cid",), ("dot",)), (1, 0, 0, 0))

    def test_the_person_is_no_guest(self):
        self.wrong("dot", ("ann",), (), (), ("ann", 1))
        self.wrong("cid", ("ann",), ("ben",), ("ann", 0), ())

    def test_the_teller_hears_too_late_or_never(self):
        self.wrong("cid", ("ann",), (), ("ben", 1), ())
        self.wrong("ben", ("cid", 1), ("ann", 1), ("cid",), ())
        self.wrong("ann", ("ben", 0), ("cid", 1), ("cid",), ())
        self.wrong("dot", ("ann",), (), (), ("ann", 2))
        self.assertEqual(self.right(("cid", 1), (), ("cid",), ()), (2, None, 0, None))

    def test_two_who_tell_each_other(self):
        table = Timetable(("ann", "ben"), [((1,), ("ann", "ben")), ((2,), ("ann", "ben"))])
        self.assert_fails(InvalidSource("ann"), lambda: heard_days(table, (("ben", 0), ("ann", 1))))
        self.assert_fails(InvalidSource("ann"), lambda: heard_days(table, (("ben", 0), ("ann", 0))))
        self.assert_fails(InvalidSource("ben"), lambda: heard_days(table, (("ben", 1), ("ann", 0))))

    def test_the_first_wrong_person(self):
        self.wrong("ben", ("ann",), ("ann",), ("ann",), ("ann",))
        self.wrong("cid", (), (), ("cid", 0), ("ann", 0, 0))
        self.wrong("dot", (), (), (), ("cid",))

    def test_a_wrong_entry_still_tells_a_day(self):
        # The entry of ben is wrong, but by its form ben hears on day 1, or on day 0: ann's entry is right.
        self.wrong("ben", ("ben", 1), ("dot", 0), (), ())
        self.wrong("ben", ("ben", 1), ("eve", 0), (), ())
        self.wrong("ben", ("ben", 0), ("cid",), (), ())
        self.wrong("ben", ("ben", 0), (7,), (), ())
        # Here the form says that ben hears on day 1, not earlier, or never.
        self.wrong("ann", ("ben", 0), ("dot", 0), (), ())
        self.wrong("ann", ("ben", 1), ("ann", -4), (), ())
        self.wrong("ann", ("ben", 1), ("ann", 4), (), ())
        self.wrong("ann", ("ben", 1), ("ann", "cid"), (), ())
        self.wrong("ann", ("ben", 1), ("ann", 0, 0), (), ())
        self.wrong("ann", ("ben", 1), (), (), ())


class TraceTest(Case):
    SOURCES = (("ben", 0), ("ben",), ("ann", 1), ())

    def test_ways_from_somebody_who_began(self):
        self.assertEqual(trace(TABLE, self.SOURCES, "ben"), ())
        self.assertEqual(trace(TABLE, self.SOURCES, "ann"), ((1, 0, "ben", "ann"),))
        self.assertEqual(
            trace(timetable=TABLE, sources=self.SOURCES, person="cid"), ((1, 0, "ben", "ann"), (2, 1, "ann", "cid"))
        )
        two = (("ann",), ("ann", 0), ("cid",), ("cid", 3))
        self.assertEqual(trace(TABLE, two, "dot"), ((2, 3, "cid", "dot"),))
        self.assertEqual(trace(TABLE, two, "ben"), ((1, 0, "ann", "ben"),))

    def test_ways_are_ways_and_keep_the_sources(self):
        long = 0
        for table in [table for table in SAMPLES if len(table.people) == 3 and len(table.meetings) < 4]:
            entries = [(), *[(name, at) for name in table.people for at in range(len(table.meetings))]]
            for sources in product(entries + [(table.people[0],)], *[entries + [(name,)] for name in table.people[1:]]):
                if first_wrong(table, sources) is not None:
                    continue
                days = heard_days(table, sources)
                for person, day in zip(table.people, days):
                    if day is None:
                        self.assert_fails(NeverHeard(person), lambda: trace(table, sources, person))
                        continue
                    way = trace(table, sources, person)
                    first = way[0][2] if way else person
                    self.assertEqual(judge_way(table, first, person, way), day)
                    self.assertIn(first, beginners(sources))
                    for _, meeting, teller, hearer in way:
                        self.assertEqual(sources[table.people.index(hearer)], (teller, meeting))
                    long += len(way) > 1
        self.assertGreater(long, 10)

    def test_errors_in_their_order(self):
        self.assert_fails(InvalidSource("ben"), lambda: trace(TABLE, ((), ("ann",), (), ()), "eve"))
        self.assert_fails(UnknownName("eve"), lambda: trace(TABLE, self.SOURCES, "eve"))
        self.assert_fails(NeverHeard("dot"), lambda: trace(TABLE, self.SOURCES, "dot"))


class BeginnersTest(Case):
    def test_entries_with_one_item_right_or_wrong(self):
        self.assertEqual(beginners(TraceTest.SOURCES), ["ben"])
        self.assertEqual(beginners(((), ("eve",), ("ann", 0), ("ann",), ("eve",), ("a", 1, 2))), ["eve", "ann", "eve"])
        self.assertEqual(beginners(sources=()), [])

    def test_lists_are_new_and_nothing_is_changed(self):
        sources = [("ann",), ()]
        beginners(sources).append("ben")
        self.assertEqual(beginners(sources), ["ann"])
        self.assertEqual(sources, [("ann",), ()])


if __name__ == "__main__":
    unittest.main()
