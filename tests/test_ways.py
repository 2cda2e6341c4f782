import unittest

from fittingpasts.borders import border
from fittingpasts.errors import NoWay, UnknownName
from fittingpasts.timetables import Timetable
from fittingpasts.ways import earliest_way, judge_way
from tests.helpers import BIG, Case
from tests.tellings import SAMPLES, all_ways, example, led_to, ways_to

# ann and ben meet on days 2 and 5, all three on day 3, ben and cid on days 0 and 4.
TABLE = Timetable(
    ("ann", "ben", "cid"), [((2, 5), ("ann", "ben")), ((3,), ("ann", "cid", "ben")), ((0, 4), ("ben", "cid"))]
)
WAY = ((2, 0, "ann", "ben"), (3, 1, "ben", "cid"), (4, 2, "cid", "ben"), (5, 0, "ben", "ann"))


class EarliestWayTest(Case):
    def test_against_all_ways(self):
        led = 0
        for table in SAMPLES:
            for begin in table.people:
                for person in table.people:
                    ways = ways_to(table, begin, person)
                    if not ways:
                        shown = NoWay(border(table, begin, person))
                        self.assert_fails(shown, lambda: earliest_way(table, begin, person))
                        continue
                    way = earliest_way(table, begin, person)
                    self.assertIn(way, ways)
                    self.assertEqual(led_to(way, begin)[1], min(led_to(other, begin)[1] for other in ways))
                    led += len(way) > 1
        self.assertGreater(led, 50)

    def test_the_empty_way(self):
        self.assertEqual(earliest_way(example(), "ann", "ann"), ())
        self.assertEqual(earliest_way(Timetable(("ann",), ()), begin="ann", person="ann"), ())
        self.assertEqual(earliest_way(timetable=TABLE, begin="ben", person="ben"), ())

    def test_kinds(self):
        way = earliest_way(example(), "cid", "ann")
        self.assertEqual(way, ((2, 1, "cid", "ben"), (3, 0, "ben", "ann")))
        self.assertIs(type(way), tuple)
        self.assertTrue(all(type(step) is tuple for step in way))

    def test_day_zero_leads_nowhere(self):
        table = Timetable(("ann", "ben"), [((0,), ("ann", "ben"))])
        self.assert_fails(NoWay((("ann", 0),)), lambda: earliest_way(table, "ann", "ben"))
        table = Timetable(("ann", "ben"), [((0, BIG), ("ann", "ben"))])
        self.assertEqual(earliest_way(table, "ann", "ben"), ((BIG, 0, "ann", "ben"),))

    def test_the_table_of_no_way_is_in_the_order_of_the_people(self):
        table = Timetable(("dot", "cid", "ben", "ann"), [((1,), ("ann", "cid")), ((2,), ("cid", "ben"))])
        self.assert_fails(
            NoWay((("cid", 1), ("ben", 2), ("ann", 0))), lambda: earliest_way(table, "ann", "dot")
        )
        self.assert_fails(NoWay((("dot", 0),)), lambda: earliest_way(table, "dot", "ann"))

    def test_unknown_names(self):
        for begin, person, name in (("eve", "fay", "eve"), ("eve", "ann", "eve"), ("ann", "fay", "fay"), ("", "", "")):
            self.assert_fails(UnknownName(name), lambda: earliest_way(TABLE, begin, person))


class JudgeWayTest(Case):
    def test_right_ways(self):
        for table in SAMPLES[:30]:
            for begin in table.people:
                for way in all_ways(table, begin)[:200]:
                    found, day = led_to(way, begin)
                    for person in table.people:
                        right = day if person == found else None
                        self.assertEqual(judge_way(table, begin, person, way), right)

    def test_a_meeting_on_several_days_and_a_person_twice(self):
        self.assertEqual(judge_way(timetable=TABLE, begin="ann", person="ann", way=WAY), 5)
        self.assertEqual(judge_way(TABLE, "ann", "ben", WAY[:3]), 4)
        back = ((2, 0, "ann", "ben"), (5, 0, "ben", "ann"))
        self.assertEqual(judge_way(TABLE, "ann", "ann", back), 5)

    def test_the_empty_way(self):
        self.assertEqual(judge_way(TABLE, "ann", "ann", ()), 0)
        self.assertIsNone(judge_way(TABLE, "ann", "ben", ()))

    def test_unknown_people(self):
        self.assertIsNone(judge_way(TABLE, "eve", "eve", ()))
        self.assertIsNone(judge_way(TABLE, "eve", "ann", WAY))
        self.assertIsNone(judge_way(TABLE, "ann", "eve", WAY))
        self.assertIsNone(judge_way(TABLE, "ann", "eve", ()))

    def test_another_beginning_or_end(self):
        self.assertIsNone(judge_way(TABLE, "ben", "ann", WAY))
        self.assertIsNone(judge_way(TABLE, "ann", "ben", WAY))
        self.assertIsNone(judge_way(TABLE, "ann", "ann", WAY[1:]))
        self.assertIsNone(judge_way(TABLE, "ann", "ann", (WAY[0], *WAY[2:])))

    def test_spoilt_steps(self):
        for at, step in (
            (0, (1, 0, "ann", "ben")), (0, (3, 0, "ann", "ben")), (0, (-2, 0, "ann", "ben")),
            (0, (2, -3, "ann", "ben")), (0, (2, 3, "ann", "ben")), (0, (2, BIG, "ann", "ben")),
            (0, (2, 1, "ann", "ben")), (0, (2, "0", "ann", "ben")), (0, ("2", 0, "ann", "ben")),
            (0, (2, 0, "ann", "ann")), (0, (2, 0, "ben", "ann")), (0, (2, 0, "ann", "eve")), (0, (2, 0, 0, 1)),
            (0, (2, 0, "eve", "ben")), (0, (5, 0, "ann", "ben")), (1, (3, 2, "ben", "cid")),
            (1, (3, 1, "cid", "ben")), (1, (3, 1, "ben", "ben")), (1, (3, 1, "ben", "ann")), (1, (2, 0, "ben", "cid")),
            (2, (4, 0, "cid", "ben")), (2, (4, 2, "cid", "ann")), (2, (3, 1, "cid", "ben")), (2, (0, 2, "cid", "ben")),
            (3, (2, 0, "ben", "ann")), (3, (3, 1, "ben", "ann")), (3, ("ann", "ben", 5, 0)),
        ):
            way = (*WAY[:at], step, *WAY[at + 1:])
            self.assertIsNone(judge_way(TABLE, "ann", "ann", way), step)

    def test_a_last_step_that_is_not_told(self):
        self.assertEqual(judge_way(TABLE, "ann", "cid", WAY[:2]), 3)
        for step in (
            (4, 1, "ben", "cid"), (2, 1, "ben", "cid"), (3, -2, "ben", "cid"), (3, 1, "ann", "cid"),
            (3, 0, "ben", "cid"), (3, 3, "ben", "cid"), (0, 2, "ben", "cid"), (-4, 2, "ben", "cid"),
        ):
            self.assertIsNone(judge_way(TABLE, "ann", "cid", (WAY[0], step)), step)
        # Who is told by themselves, or by somebody who was not there, is not told.
        self.assertIsNone(judge_way(TABLE, "ann", "ann", ((2, 0, "ann", "ann"),)))
        self.assertIsNone(judge_way(TABLE, "cid", "ben", ((2, 0, "cid", "ben"),)))
        self.assertIsNone(judge_way(TABLE, "ann", "cid", ((2, 0, "ann", "cid"),)))

    def test_days_that_do_not_ascend(self):
        table = Timetable(("ann", "ben", "cid"), [((1, 2, 3), ("ann", "ben", "cid"))])
        self.assertEqual(judge_way(table, "ann", "cid", ((1, 0, "ann", "ben"), (2, 0, "ben", "cid"))), 2)
        self.assertIsNone(judge_way(table, "ann", "cid", ((2, 0, "ann", "ben"), (2, 0, "ben", "cid"))))
        self.assertIsNone(judge_way(table, "ann", "cid", ((2, 0, "ann", "ben"), (1, 0, "ben", "cid"))))

    def test_day_zero(self):
        self.assertIsNone(judge_way(TABLE, "ben", "cid", ((0, 2, "ben", "cid"),)))
        self.assertEqual(judge_way(TABLE, "ben", "cid", ((4, 2, "ben", "cid"),)), 4)


if __name__ == "__main__":
    unittest.main()
