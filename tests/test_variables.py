import unittest

from fittingpasts.cycles import all_cycles
from fittingpasts.errors import UnknownName, UnknownVariable
from fittingpasts.frames import Frame
from fittingpasts.rules import all_rules
from fittingpasts.variables import day_by, in_order, part_name, point_variable, values_of, variables
from tests.helpers import Case
from tests.houses import FULL, PAIR, irregular_frames

BARE = Frame(("fire",), last=1)


class VariablesTest(Case):
    def test_example_of_the_interface(self):
        self.assertEqual(values_of(PAIR, ("source", "ben")), ((), ("ben",), ("ann", "feast")))

    def test_all_kinds_in_their_order(self):
        self.assertEqual(variables(FULL), [
            ("day", "fire"), ("day", "feast"), ("day", "fall"), ("stay", "ann"), ("stay", "ben"), ("stay", "cid"),
            ("begin", ""), ("source", "ann"), ("source", "ben"), ("source", "cid"), ("heard", "ann"), ("heard", "ben"),
            ("heard", "cid"), ("cycle", "week"), ("cycle", "ann"), ("rule", "attic"), ("rule", "ann"),
            ("astray", "attic"), ("astray", "ann"),
        ])

    def test_frames_without_some_of_them(self):
        self.assertEqual(variables(BARE), [("day", "fire")])
        self.assertEqual(
            variables(frame=Frame(("a",), ("b",))),
            [("day", "a"), ("stay", "b"), ("begin", ""), ("source", "b"), ("heard", "b")],
        )
        self.assertEqual(variables(Frame(("a",), cycles=[("c", 1, 2)])), [("day", "a"), ("cycle", "c")])
        self.assertEqual(
            variables(Frame(("a",), marks=("m",), shelves=[("s", ())])), [("day", "a"), ("rule", "s"), ("astray", "s")]
        )
        self.assertEqual(variables(Frame(("a",), marks=("m",), rolls=[("r", "a", (1,))])), [("day", "a")])

    def test_lists_are_new(self):
        variables(FULL).clear()
        self.assertEqual(len(variables(FULL)), 19)

    def test_in_order(self):
        wanted = [("astray", "ann"), ("day", "fall"), ("day", "fall"), None, ("begin", ""), ("day", "x")]
        self.assertEqual(in_order(FULL, wanted), (("day", "fall"), ("begin", ""), ("astray", "ann")))


class ValuesTest(Case):
    def test_each_kind(self):
        self.assertEqual(values_of(FULL, ("day", "fall")), (0, 1, 2, 3, 4))
        self.assertEqual(values_of(Frame(("a",), ("b",), last=2), ("stay", "b")),
                         ((0, 0), (0, 1), (0, 2), (1, 1), (1, 2), (2, 2)))
        self.assertEqual(values_of(FULL, ("begin", "")), ("ann", "ben", "cid"))
        self.assertEqual(values_of(frame=FULL, variable=("heard", "cid")), (0, 1, 2, 3, 4, 5))
        self.assertEqual(values_of(FULL, ("cycle", "week")), ((2, 0), (2, 1), (3, 0), (3, 1), (3, 2)))
        self.assertEqual(values_of(FULL, ("cycle", "ann")), ((1, 0),))
        self.assertEqual(values_of(FULL, ("rule", "attic")), tuple(rule.terms for rule in all_rules(3)))
        self.assertEqual(values_of(FULL, ("astray", "attic")), ("", "note", "ann", "deed"))

    def test_sources(self):
        self.assertEqual(
            values_of(FULL, ("source", "ann")), ((), ("ann",), ("cid", "feast"), ("ben", "fire"), ("cid", "fire"))
        )
        self.assertEqual(values_of(FULL, ("source", "ben")), ((), ("ben",), ("cid", "fire"), ("ann", "fire")))
        self.assertEqual(
            values_of(FULL, ("source", "cid")), ((), ("cid",), ("ann", "feast"), ("ben", "fire"), ("ann", "fire"))
        )
        self.assertEqual(values_of(Frame(("a",), ("b",)), ("source", "b")), ((), ("b",)))

    def test_rules_without_known_marks_and_empty_shelves(self):
        frame = Frame(("a",), shelves=[("s", ())])
        self.assertEqual(values_of(frame, ("rule", "s")), (((0, 1),), ((0, -1),)))
        self.assertEqual(values_of(frame, ("astray", "s")), ("",))

    def test_values_are_tuples_of_different_values_for_irregular_frames(self):
        for frame in irregular_frames(5, 40):
            for variable in variables(frame):
                values = values_of(frame, variable)
                self.assertIs(type(values), tuple)
                self.assertEqual([value for at, value in enumerate(values) if value in values[:at]], [])
                if variable[0] == "stay":
                    self.assertEqual(list(values), sorted(values))
                    self.assertEqual(len(values), (frame.last + 1) * (frame.last + 2) // 2)
                if variable[0] == "cycle":
                    self.assertEqual(list(values), all_cycles(*frame.cycles[0][1:]))

    def test_unknown_variables(self):
        for variable in (
            ("day", ""), ("day", "ann"), ("day", "deed"), ("stay", "fire"), ("stay", ""), ("begin", "ann"),
            ("source", ""),
            ("source", "week"), ("heard", "feast"), ("cycle", "ben"), ("rule", "desk"), ("rule", "ben"),
            ("astray", "fire"),
            ("roll", "deed"), ("", ""), ("Day", "fire"), ("mark", "size"), ("fire", "day"), ("part", "day"),
        ):
            self.assert_fails(UnknownVariable(variable), lambda: values_of(FULL, variable))
        for variable in (("begin", ""), ("stay", "fire"), ("rule", "fire")):
            self.assert_fails(UnknownVariable(variable), lambda: values_of(BARE, variable))


class PartNameTest(Case):
    def test_the_kind_alone(self):
        parts = {
            "day": "orders", "stay": "stays", "begin": "tellings", "source": "tellings", "heard": "tellings",
            "cycle": "cycles", "rule": "shelves", "astray": "shelves",
        }
        for kind, part in parts.items():
            self.assertEqual(part_name((kind, "whatever")), part)
            self.assertEqual(part_name(variable=(kind, "")), part)

    def test_other_kinds(self):
        for variable in (("", ""), ("days", "fire"), ("orders", ""), ("fire", "day"), ("Day", "fire")):
            self.assert_fails(UnknownVariable(variable), lambda: part_name(variable))


class PointTest(Case):
    def test_points(self):
        self.assertEqual(point_variable(FULL, "fire"), ("day", "fire"))
        self.assertEqual(point_variable(FULL, "ben+"), ("stay", "ben"))
        self.assertEqual(point_variable(frame=FULL, point="ben-"), ("stay", "ben"))

    def test_an_event_and_a_person_with_the_same_name(self):
        frame = Frame(("ann",), ("ann",))
        found = [point_variable(frame, point) for point in ("ann", "ann+", "ann-")]
        self.assertEqual(found, [("day", "ann"), ("stay", "ann"), ("stay", "ann")])

    def test_unknown_points(self):
        for point in (
            "", "+", "-", "ann", "fire+", "fire-", "dot+", "ann++", "ann+-", "+ann", "ann +", "ann*", "fires", "deed",
            "an+",
        ):
            self.assert_fails(UnknownName(point), lambda: point_variable(FULL, point))
        self.assert_fails(UnknownName("ann+"), lambda: point_variable(BARE, "ann+"))

    def test_the_day_by_the_value(self):
        self.assertEqual([day_by("fire", 3), day_by("ann+", (1, 4)), day_by("ann-", (1, 4))], [3, 1, 4])


if __name__ == "__main__":
    unittest.main()
