import unittest

from fittingpasts.borders import border, gatekeepers, judge_border
from fittingpasts.errors import NoWay, UnknownName
from fittingpasts.timetables import Timetable, arrivals
from tests.helpers import BIG, Case, Numbers
from tests.tellings import SAMPLES, all_ways, example, ways_to

# From ann the news reaches ben on day 2, cid on day 4 and dot on day 6; eve hears nothing.
LINE = Timetable(
    ("ann", "ben", "cid", "dot", "eve"),
    [((0, 2, 5), ("ann", "ben")), ((1, 4), ("ben", "cid")), ((6, 7), ("dot", "cid"))],
)
TOLD = (("ann", 0), ("ben", 2), ("cid", 4), ("dot", 6))


def means_border(table, begin, person, rows, by, silent):
    """Point 47 word by word."""
    names = [name for name, _ in rows]
    days = dict(rows)
    if sorted(set(names)) != sorted(names) or not all(name in table.people and day >= 0 for name, day in rows):
        return False
    if (begin, 0) not in rows or person not in table.people:
        return False
    for name, day in rows:
        for met, guests in table.meetings:
            later = [other for other in met if other > day]
            if name not in silent and name in guests and later:
                if not all(guest in days and days[guest] <= min(later) for guest in guests if guest != name):
                    return False
    return not any(name == person and (by is None or day <= by) for name, day in rows)


class BorderTest(Case):
    def test_example_of_the_interface(self):
        self.assertEqual(border(example(), "ann", "cid", silent=("ben",)), (("ann", 0), ("ben", 1)))

    def test_against_all_ways(self):
        numbers = Numbers(5)
        for table in SAMPLES:
            for begin in table.people:
                silent = [name for name in table.people if numbers.below(4) == 0] * 2
                heard = {name: day for day, name in arrivals(table, begin, silent=silent)}
                told = tuple((name, heard[name]) for name in table.people if name in heard)
                for person in table.people:
                    for by in (None, -1, 0, 1, 3, 5):
                        ways = ways_to(table, begin, person, by, silent)
                        found = border(table, begin, person, by=by, silent=silent)
                        self.assertEqual(found, None if ways else told)
                        if found is not None:
                            self.assertTrue(judge_border(table, begin, person, found, by=by, silent=silent))

    def test_the_day(self):
        self.assertIsNone(border(LINE, "ann", "dot"))
        self.assertIsNone(border(LINE, "ann", "dot", by=None))
        self.assertIsNone(border(LINE, "ann", "dot", by=6))
        self.assertEqual(border(LINE, "ann", "dot", by=5), TOLD)
        self.assertEqual(border(LINE, "ann", "eve"), TOLD)
        self.assertEqual(border(LINE, "ann", "eve", by=BIG), TOLD)
        self.assertIsNone(border(LINE, "ann", "ann", by=0))
        self.assertEqual(border(timetable=LINE, begin="ann", person="ann", by=-1, silent=()), TOLD)

    def test_silent_people(self):
        self.assertEqual(border(LINE, "ann", "dot", silent=["cid", "cid"]), TOLD[:3])
        self.assertEqual(border(LINE, "ann", "ben", silent=("ann",)), TOLD[:1])
        self.assertEqual(border(LINE, "ann", "ben", silent=("ann", "ben", "ann")), TOLD[:1])
        self.assertIsNone(border(LINE, "ann", "dot", silent=("dot", "eve")))
        silent = ["ben"]
        border(LINE, "ann", "dot", silent=silent)
        self.assertEqual(silent, ["ben"])

    def test_unknown_names(self):
        for begin, person, silent, name in (
            ("fay", "gus", ("hal",), "fay"), ("ann", "gus", ("hal",), "gus"),
            ("ann", "ben", ("ben", "hal", "ida"), "hal"),
            ("ann", "gus", (), "gus"), ("", "ann", (), ""),
        ):
            self.assert_fails(UnknownName(name), lambda: border(LINE, begin, person, by=-5, silent=silent))


class JudgeBorderTest(Case):
    def judge(self, rows, person="eve", by=None, silent=()):
        return judge_border(LINE, "ann", person, tuple(rows), by=by, silent=silent)

    def test_against_the_words_for_irregular_tables(self):
        numbers = Numbers(11)
        right = 0
        for table in SAMPLES:
            for _ in range(60):
                begin, person = numbers.choice(table.people), numbers.choice(table.people)
                silent = [name for name in table.people if numbers.below(4) == 0]
                by = numbers.choice((None, -1, 0, 2, 4))
                heard = list(arrivals(table, begin, silent=silent))
                rows = [(name, day + (0 if numbers.below(3) else numbers.between(-1, 2))) for day, name in heard]
                rows += [(name, numbers.below(4)) for name in table.people if numbers.below(4) == 0]
                rows = tuple(row for row in rows if numbers.below(8))
                means = means_border(table, begin, person, rows, by, silent)
                self.assertIs(judge_border(table, begin, person, rows, by=by, silent=silent), means)
                right += means
                if means:
                    self.assertEqual(ways_to(table, begin, person, by, silent), [])
        self.assertGreater(right, 200)

    def test_the_table_told_in_any_order(self):
        self.assertTrue(judge_border(timetable=LINE, begin="ann", person="eve", table=TOLD, by=None, silent=()))
        self.assertTrue(self.judge(TOLD[::-1]))
        self.assertTrue(self.judge(TOLD, person="dot", by=5))
        self.assertFalse(self.judge(TOLD, person="dot", by=6))
        self.assertFalse(self.judge(TOLD, person="dot"))

    def test_right_tables_that_are_not_told(self):
        # ben is said to have heard on day 1, and dot on day 5: both are sooner than anybody told them.
        self.assertTrue(self.judge((("ann", 0), ("ben", 1), ("cid", 4), ("dot", 5))))
        self.assertTrue(self.judge((*TOLD, ("eve", 3)), person="dot", by=5))
        self.assertTrue(self.judge((*TOLD, ("eve", 3)), by=2))
        self.assertFalse(self.judge((*TOLD, ("eve", 3)), by=3))

    def test_left_out_and_doubled_pairs(self):
        for at in range(4):
            self.assertFalse(self.judge(TOLD[:at] + TOLD[at + 1:]))
            self.assertFalse(self.judge((*TOLD, TOLD[at])))
        self.assertFalse(self.judge((*TOLD, ("ben", 1))))
        self.assertFalse(self.judge(()))

    def test_wrong_days(self):
        for at in range(1, 4):
            name, day = TOLD[at]
            self.assertFalse(self.judge((*TOLD[:at], (name, day + 1), *TOLD[at + 1:])))
            self.assertFalse(self.judge((*TOLD[:at], (name, -1), *TOLD[at + 1:])))
        for day in (1, -1, 2):
            self.assertFalse(self.judge((("ann", day), *TOLD[1:])))
        self.assertFalse(self.judge((*TOLD, ("eve", -1)), by=-5))
        self.assertTrue(self.judge((*TOLD, ("eve", 0)), by=-5))

    def test_a_teller_with_an_earlier_day_must_have_told(self):
        # Who hears on day 0 tells on day 1.
        self.assertFalse(self.judge((("ann", 0), ("ben", 0), ("cid", 4), ("dot", 6))))
        self.assertTrue(self.judge((("ann", 0), ("ben", 0), ("cid", 1), ("dot", 6))))
        self.assertTrue(self.judge((("ann", 0), ("ben", 0), ("cid", 4), ("dot", 6)), silent=("ben",)))

    def test_silent_people(self):
        self.assertTrue(self.judge(TOLD[:3], person="dot", silent=("cid",)))
        self.assertFalse(self.judge(TOLD[:3], person="dot"))
        self.assertTrue(self.judge(TOLD[:1], person="ben", silent=("ann", "ann")))
        self.assertTrue(self.judge(TOLD[:3], person="dot", silent=["fay", "cid", "fay"]))
        self.assertTrue(self.judge(TOLD, silent=("fay",)))

    def test_unknown_names(self):
        self.assertFalse(self.judge(TOLD, person="fay"))
        self.assertFalse(judge_border(LINE, "fay", "eve", TOLD))
        self.assertFalse(judge_border(LINE, "fay", "eve", (("fay", 0),)))
        self.assertFalse(self.judge((*TOLD, ("fay", 9))))
        self.assertFalse(judge_border(LINE, "fay", "fay", (("fay", 0),), by=-1))

    def test_by_below_zero(self):
        self.assertTrue(self.judge(TOLD, person="ann", by=-1))
        self.assertFalse(self.judge(TOLD, person="ann", by=0))
        self.assertTrue(self.judge(TOLD, person="ben", by=-BIG))


class GatekeepersTest(Case):
    def test_example_of_the_interface(self):
        self.assertEqual(gatekeepers(example(), "ann", "cid"), ["ann", "ben"])

    def test_against_all_ways(self):
        several = 0
        for table in SAMPLES:
            for begin in table.people:
                ways = {
                    name: [way for way in all_ways(table, begin) if (way[-1][3] if way else begin) == name]
                    for name in table.people
                }
                for person in table.people:
                    for by in (None, -1, 0, 2, 4):
                        several += self.check(table, begin, person, by, ways[person])
        self.assertGreater(several, 20)

    def check(self, table, begin, person, by, ways):
        ways = [way for way in ways if by is None or (way[-1][0] if way else 0) <= by]
        if not ways:
            shown = NoWay(border(table, begin, person, by=by))
            self.assert_fails(shown, lambda: gatekeepers(table, begin, person, by=by))
            return False
        passed = [name for name in table.people if all(name in [step[2] for step in way] for way in ways)]
        self.assertEqual(gatekeepers(table, begin, person, by=by), passed)
        self.assertNotIn(person, passed)
        self.assertEqual(begin in passed, begin != person)
        return len(passed) > 1

    def test_against_leaving_each_person_silent(self):
        for table in SAMPLES:
            for person in table.people[1:]:
                if ways_to(table, table.people[0], person):
                    silent = [
                        name for name in table.people if not ways_to(table, table.people[0], person, silent=(name,))
                    ]
                    self.assertEqual(gatekeepers(table, table.people[0], person), silent)

    def test_begin_is_the_person(self):
        self.assertEqual(gatekeepers(LINE, "ann", "ann"), [])
        self.assertEqual(gatekeepers(LINE, "ann", "ann", by=0), [])
        self.assertEqual(gatekeepers(timetable=LINE, begin="ann", person="ann", by=None), [])
        self.assert_fails(NoWay(TOLD), lambda: gatekeepers(LINE, "ann", "ann", by=-1))

    def test_ways_that_arrive_too_late_do_not_count(self):
        table = Timetable(
            ("ann", "ben", "cid", "dot"),
            [((1,), ("ann", "ben", "cid")), ((2,), ("ben", "dot")), ((3,), ("cid", "dot"))],
        )
        self.assertEqual(gatekeepers(table, "ann", "dot"), ["ann"])
        self.assertEqual(gatekeepers(table, "ann", "dot", by=3), ["ann"])
        self.assertEqual(gatekeepers(table, "ann", "dot", by=2), ["ann", "ben"])
        told = (("ann", 0), ("ben", 1), ("cid", 1), ("dot", 2))
        self.assert_fails(NoWay(told), lambda: gatekeepers(table, "ann", "dot", by=1))

    def test_unknown_names(self):
        self.assert_fails(UnknownName("fay"), lambda: gatekeepers(LINE, "fay", "gus"))
        self.assert_fails(UnknownName("gus"), lambda: gatekeepers(LINE, "ann", "gus", by=-1))

    def test_lists_are_new(self):
        found = gatekeepers(LINE, "ann", "dot")
        found.append("eve")
        self.assertEqual(gatekeepers(LINE, "ann", "dot"), ["ann", "ben", "cid"])


if __name__ == "__main__":
    unittest.main()
