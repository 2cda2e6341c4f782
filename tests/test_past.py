import unittest

from fittingpasts.calendars import Calendar
from fittingpasts.errors import InvalidLine, InvalidPast, UnknownName, UnknownVariable, UnlikeFrames
from fittingpasts.frames import Frame
from fittingpasts.house import house_ties, tie_holds, tie_scope
from fittingpasts.past import Past, parted
from fittingpasts.rules import Rule
from fittingpasts.sources import heard_days
from fittingpasts.stays import Stay
from fittingpasts.timetables import Timetable
from fittingpasts.variables import values_of, variables
from tests.helpers import Case, Numbers
from tests.houses import FULL, PAIR, irregular_frames, irregular_values

TEXT = """day fire 2
day feast 3
stay ann 0 4
stay ben 4 6
begin ann
source ann ann
source ben ann feast
heard ann 0
heard ben 3"""
# The fire was on day 2, the feast on day 1, the fall on day 3; cid began, and told ann at the feast.
VALUES = (
    2, 1, 3, (1, 2), (0, 4), (1, 3), "cid", ("cid", "feast"), ("ann", "fire"), ("cid",), 1, 2, 0, (3, 2), (1, 0),
    ((2, 1), (0, -1), (1, -1)), ((0, 1), (1, 1), (2, -1)), "ann", "",
)
FULL_TEXT = """day fire 2
day feast 1
day fall 3
stay ann 1 2
stay ben 0 4
stay cid 1 3
begin cid
source ann cid feast
source ben ann fire
source cid cid
heard ann 1
heard ben 2
heard cid 0
cycle week 3 2
cycle ann 1 0
rule attic 2+ 0- 1-
rule ann 0+ 1+ 2-
astray attic ann
astray ann"""


def changed(values, at, value):
    return (*values[:at], value, *values[at + 1:])


def samples(seed, frames=40, each=8):
    numbers = Numbers(seed)
    return [
        Past(frame, irregular_values(numbers, frame)) for frame in irregular_frames(seed, frames) for _ in range(each)
    ]


class MakingTest(Case):
    def test_example_of_the_interface(self):
        past = Past.read(PAIR, TEXT)
        self.assertEqual(past.faults(), [("guest", "feast", "ben")])
        self.assertEqual([past.event_line(), past.sources()], [("fire", "feast"), (("ann",), ("ann", 0))])

    def test_attributes(self):
        past = Past(FULL, VALUES)
        self.assertEqual([past.frame, past.assigned], [FULL, VALUES])
        self.assertEqual(Past(frame=FULL, values=list(VALUES)).assigned, VALUES)

    def test_sequences_become_tuples_and_copies(self):
        stay, source, cycle, rule = [1, 2], ["cid", "feast"], [3, 2], [[2, 1], [0, -1], [1, -1]]
        values = list(VALUES)
        for at, value in ((3, stay), (7, source), (13, cycle), (15, rule)):
            values[at] = value
        past = Past(FULL, values)
        for row in (stay, source, cycle, rule[0], rule, values):
            row.clear()
        self.assertEqual(past.assigned, VALUES)
        self.assertEqual(past["source", "ann"], ("cid", "feast"))
        self.assertEqual(past, Past(FULL, VALUES))

    def test_wrong_values(self):
        for at, wrongs in (
            (0, (-1, 5)), (2, (5, 99)), (3, ((2, 1), (0, 5), (-1, 2), (5, 5))), (6, ("dot", "", "fire")),
            (7, (("ann", "feast"), ("ben",), ("ben", "feast"), ("cid", "fall"), ("cid", "feast", "fire"), ("",))),
            (10, (-1, 6)), (13, ((1, 0), (3, 3), (4, 0), (2, 2), (3, -1), (2,))), (14, ((1, 1), (2, 0))),
            (15, ((), ((0, 1), (1, 1)), ((0, 1), (1, 1), (3, 1)), ((0, 1), (1, 2), (2, 1)), ((0, 1), (0, 1), (1, 1)))),
            (17, ("will", "attic", "fire")), (18, ("note", "deed", "fall")),
        ):
            for wrong in wrongs:
                variable = variables(FULL)[at]
                self.assert_fails(InvalidPast(variable), lambda: Past(FULL, changed(VALUES, at, wrong)))
                # The first wrong one counts.
                later = changed(changed(VALUES, at, wrong), 18, "fire")
                self.assert_fails(InvalidPast(variable), lambda: Past(FULL, later))

    def test_equality(self):
        past = Past(FULL, VALUES)
        self.assertEqual(past, Past(FULL, VALUES))
        self.assertNotEqual(past, Past(FULL, changed(VALUES, 0, 1)))
        self.assertNotEqual(Past(Frame(("a",), last=3), (1,)), Past(Frame(("b",), last=3), (1,)))
        self.assertNotEqual(Past(Frame(("a",), last=3), (1,)), Past(Frame(("a",), last=4), (1,)))
        self.assertFalse(past == VALUES)

    def test_values_of_variables(self):
        past = Past(FULL, VALUES)
        for variable, value in zip(variables(FULL), VALUES):
            self.assertEqual(past[variable], value)
        for variable in (("day", "ann"), ("begin", "cid"), ("", ""), ("rule", "desk"), ("Day", "fire"), ("day", "")):
            self.assert_fails(UnknownVariable(variable), lambda: past[variable])
        with self.assertRaises(TypeError):
            list(past)


class FaultsTest(Case):
    def test_a_whole_past(self):
        past = Past(FULL, VALUES)
        self.assertEqual(past.faults(), [])
        self.assertTrue(past.is_whole())

    def test_faults_of_every_kind(self):
        for changes, faults in (
            ({3: (2, 2)}, [("guest", "feast", "ann")]),
            ({5: (1, 1)}, [("guest", "fire", "cid")]),
            ({6: "ben"}, [("begin", "ben"), ("begin", "cid")]),
            ({9: ()}, [("begin", "cid"), ("hear", "cid")]),
            ({10: 2}, [("hear", "ann"), ("hear", "ben")]),
            ({11: 3}, [("hear", "ben")]),
            ({12: 1}, [("hear", "ann"), ("hear", "cid")]),
            ({17: ""}, [("sorted", "attic", "ann", "deed")]),
            ({17: "deed"}, []),
            ({17: "note"}, [("sorted", "attic", "ann", "deed"), ("astray", "attic")]),
            ({18: "will"}, [("astray", "ann")]),
            ({16: ((0, 1), (2, 1), (1, 1))}, []),
            ({16: ((1, 1), (0, 1), (2, -1))}, [("sorted", "ann", "ann", "will")]),
            ({3: (0, 0), 6: "ann", 18: "ann"}, [
                ("guest", "feast", "ann"), ("guest", "fire", "ann"), ("begin", "ann"), ("begin", "cid"),
                ("astray", "ann"),
            ]),
        ):
            values = VALUES
            for at, value in changes.items():
                values = changed(values, at, value)
            self.assertEqual(self.checked_faults(Past(FULL, values)), faults, changes)

    def checked_faults(self, past):
        found = past.faults()
        self.assertEqual(past.is_whole(), found == [])
        right = [
            label for label in house_ties(past.frame)
            if not tie_holds(past.frame, label, [past[variable] for variable in tie_scope(past.frame, label)])
        ]
        self.assertEqual(found, right)
        return found

    def test_irregular_pasts(self):
        kinds = set()
        for past in samples(31):
            kinds |= {label[0] for label in self.checked_faults(past)}
        self.assertEqual(kinds, {"guest", "begin", "hear", "sorted", "astray"})

    def test_lists_are_new(self):
        past = Past.read(PAIR, TEXT)
        past.faults().clear()
        self.assertEqual(len(past.faults()), 1)


class HandedOnTest(Case):
    def test_points(self):
        past = Past(FULL, VALUES)
        days = {"fire": 2, "feast": 1, "fall": 3, "ann+": 1, "ann-": 2, "ben+": 0, "ben-": 4, "cid+": 1, "cid-": 3}
        for point, day in days.items():
            self.assertEqual(past.day_of(point=point), day)
        for point in ("", "ann", "fire+", "dot-", "ann++", "deed"):
            self.assert_fails(UnknownName(point), lambda: past.day_of(point))

    def test_the_line_of_events(self):
        self.assertEqual(Past(FULL, VALUES).event_line(), ("feast", "fire", "fall"))
        frame = Frame(("d", "c", "b", "a"), last=5)
        self.assertEqual(Past(frame, (3, 1, 3, 1)).event_line(), ("c", "a", "d", "b"))
        self.assertEqual(Past(frame, (2, 2, 2, 2)).event_line(), ("d", "c", "b", "a"))

    def test_stays(self):
        past = Past(FULL, VALUES)
        self.assertEqual(past.stay_of("ann"), Stay(1, 2))
        self.assertEqual(past.stay_of(person="ben"), Stay(0, 4))
        for name in ("", "fire", "ann+", "dot"):
            self.assert_fails(UnknownName(name), lambda: past.stay_of(name))

    def test_the_calendar(self):
        self.assertEqual(Past(FULL, VALUES).calendar(), Calendar([("week", 3, 2), ("ann", 1, 0)]))
        self.assertEqual(Past.read(PAIR, TEXT).calendar(), Calendar(()))

    def test_tellings(self):
        past = Past(FULL, VALUES)
        self.assertEqual(past.timetable(), Timetable(
            ("ann", "ben", "cid"), [((1,), ("cid", "ann")), ((2,), ("ben", "cid", "ann"))]
        ))
        self.assertEqual(past.sources(), (("cid", 0), ("ann", 1), ("cid",)))
        self.assertEqual(heard_days(past.timetable(), past.sources()), (1, 2, 0))
        never = Past(FULL, changed(changed(VALUES, 8, ()), 11, 5))
        self.assertTrue(never.is_whole())
        self.assertEqual(never.sources(), (("cid", 0), (), ("cid",)))
        self.assertEqual(heard_days(never.timetable(), never.sources()), (1, None, 0))
        bare = Past(Frame(("a",)), (3,))
        self.assertEqual([bare.timetable(), bare.sources()], [Timetable((), ()), ()])

    def test_heard_days_of_whole_pasts(self):
        numbers = Numbers(2)
        frame = Frame(("a", "b"), ("p", "q", "r"), [("b", ("r", "p")), ("a", ("p", "q"))], last=3)
        whole = 0
        for _ in range(3000):
            values = irregular_values(numbers, frame)
            values[2:5] = [(0, 3)] * 3
            # Who is said to begin did so.
            values[5] = "p"
            values[6] = ("p",)
            values[9] = 0
            past = Past(frame, values)
            if past.is_whole():
                whole += 1
                days = tuple(None if past["heard", name] == 4 else past["heard", name] for name in frame.people)
                self.assertEqual(heard_days(past.timetable(), past.sources()), days)
        self.assertGreater(whole, 20)

    def test_shelves(self):
        past = Past(FULL, VALUES)
        self.assertEqual(past.rule_of("attic"), Rule.read("2+ 0- 1-"))
        self.assertEqual(past.full_rolls(shelf="attic"), ((3, 7, 1), (-1, 7, 3), (3, -4, 1)))
        self.assertEqual(past.full_rolls("ann"), ((-1, 7, 3), (0, 0, 2)))
        self.assertEqual([past.stray_of("attic"), past.stray_of("ann")], [1, None])
        self.assertEqual(Past(FULL, changed(VALUES, 17, "note")).stray_of(shelf="attic"), 0)
        for name in ("", "desk", "note", "ben", "fire"):
            for method in (past.rule_of, past.full_rolls, past.stray_of):
                self.assert_fails(UnknownName(name), lambda: method(name))

    def test_irregular_pasts(self):
        for past in samples(12):
            frame = past.frame
            days = {event: past["day", event] for event in frame.events}
            self.assertEqual(past.event_line(), tuple(sorted(frame.events, key=days.get)))
            for shelf, rolls in frame.shelves:
                full = tuple((*frame.values_of_roll(roll), days[frame.event_of(roll)]) for roll in rolls)
                self.assertEqual(past.full_rolls(shelf), full)
                self.assertEqual(past.rule_of(shelf).terms, past["rule", shelf])
                stray = past.stray_of(shelf)
                self.assertEqual("" if stray is None else rolls[stray], past["astray", shelf])


class TextTest(Case):
    def wrong(self, line, text, frame=FULL):
        self.assert_fails(InvalidLine(line), lambda: Past.read(frame, text))

    def test_texts(self):
        self.assertEqual(str(Past(FULL, VALUES)), FULL_TEXT)
        self.assertEqual(str(Past.read(PAIR, TEXT)), TEXT)
        never = Past(PAIR, (0, 0, (0, 0), (6, 6), "ben", (), ("ben",), 7, 0))
        lines = ["begin ben", "source ann", "source ben ben", "heard ann 7", "heard ben 0"]
        self.assertEqual(str(never).split("\n")[4:], lines)

    def test_written_and_read_back(self):
        self.assertEqual(Past.read(frame=FULL, text=FULL_TEXT).assigned, VALUES)
        for past in samples(44):
            self.assertEqual(Past.read(past.frame, str(past)), past)

    def test_each_word_of_each_value(self):
        for at, variable in enumerate(variables(FULL)):
            lines = set()
            for value in values_of(FULL, variable):
                past = Past(FULL, changed(VALUES, at, value))
                self.assertEqual(Past.read(FULL, str(past))[variable], value)
                lines.add(str(past).split("\n")[at])
            self.assertEqual(len(lines), len(values_of(FULL, variable)))

    def test_missing_lines_and_lines_more(self):
        lines = FULL_TEXT.split("\n")
        for at in range(19):
            self.wrong(at + 1, "\n".join(lines[:at] + lines[at + 1:]))
            self.wrong(at + 1, "\n".join(lines[:at]))
        self.wrong(20, FULL_TEXT + "\n")
        self.wrong(20, FULL_TEXT + "\nastray ann")
        self.wrong(20, FULL_TEXT + "\n\n")
        self.wrong(2, "day fire 2\n\nday feast 1")
        self.wrong(1, "\n" + FULL_TEXT)

    def test_lines_that_are_none(self):
        lines = FULL_TEXT.split("\n")
        for at, wrong in (
            (0, "day fire 5"), (0, "day fire -1"), (0, "day fire 02"), (0, "day fire"), (0, "day fire 2 "),
            (0, " day fire 2"),
            (0, "day  fire 2"), (0, "day feast 2"), (0, "fire 2"), (0, "day fire 2 3"), (0, "stay fire 2"), (0, ""),
            (3, "stay ann 2 1"), (3, "stay ann 1"), (3, "stay ann 1 5"), (3, "stay ann 1..2"), (3, "stay ann (1, 2)"),
            (6, "begin"), (6, "begin dot"), (6, "begin  cid"), (6, "begin cid ann"), (7, "source ann ben"),
            (7, "source ann "),
            (7, "source ann cid"), (7, "source ann cid fall"), (7, "source ann ann feast"), (10, "heard ann 6"),
            (10, "heard ann"), (13, "cycle week 4 0"), (13, "cycle week 3 3"), (13, "cycle week 3"),
            (13, "cycle week 3 02"),
            (15, "rule attic"), (15, "rule attic 0+ 1+"), (15, "rule attic 0+ 1+ 1-"), (15, "rule attic 0+1+2+"),
            (17, "astray attic will"), (17, "astray attic "), (18, "astray ann "), (18, "astray ann note"),
            (18, "astray"),
        ):
            self.wrong(at + 1, "\n".join([*lines[:at], wrong, *lines[at + 1:]]))

    def test_the_first_wrong_line(self):
        self.wrong(2, "day fire 2\nday feast 9\nstay ann 9 9\n", PAIR)
        self.wrong(3, "\n".join(TEXT.split("\n")[:2] + ["x"] + TEXT.split("\n")[3:] + ["y"]), PAIR)


class PartedTest(Case):
    def test_the_variables_in_order(self):
        past = Past(FULL, VALUES)
        self.assertEqual(parted(past, past), [])
        other = Past(FULL, changed(changed(changed(VALUES, 17, ""), 6, "ann"), 1, 4))
        self.assertEqual(parted(past, other), [("day", "feast"), ("begin", ""), ("astray", "attic")])
        self.assertEqual(parted(past=other, other=past), parted(past, other))

    def test_irregular_pasts(self):
        numbers = Numbers(9)
        for frame in irregular_frames(9, 30):
            past, other = [Past(frame, irregular_values(numbers, frame)) for _ in range(2)]
            right = [name for name, a, b in zip(variables(frame), past.assigned, other.assigned) if a != b]
            self.assertEqual(parted(past, other), right)

    def test_unlike_frames(self):
        past = Past(Frame(("a",), last=3), (1,))
        self.assert_fails(UnlikeFrames(), lambda: parted(past, Past(Frame(("b",), last=3), (1,))))
        self.assert_fails(UnlikeFrames(), lambda: parted(past, Past(Frame(("a",), last=4), (1,))))
        self.assertEqual(parted(past, Past(Frame(["a"], last=3), (2,))), [("day", "a")])


if __name__ == "__main__":
    unittest.main()
