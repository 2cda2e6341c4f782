import unittest
from time import process_time

from fittingpasts.errors import EmptyClause, UnknownName, UnknownTie, UnknownVariable, UnlikeFrames
from fittingpasts.frames import Frame
from fittingpasts.house import house_ties, tie_scope
from fittingpasts.lots import Lot
from fittingpasts.past import Past
from fittingpasts.statements import Apart, Began, Clause, Filed, Heard, OnDay, Present, SameRule, Together, Whole
from fittingpasts.ties import all_ties, fits, is_supported, scope_of
from fittingpasts.variables import values_of, variables
from tests.helpers import Case, Numbers
from tests.houses import FULL, PAIR
from tests.papers import (
    EVENTS, GREAT, PEOPLE, all_fitting, cases, holds, labelled, many_values, parts_of, small_frame, some_lot,
    some_papers, supports,
)

PAPERS = [Apart("fire", "feast", 1), Heard("ann", "feast") | ~Began("ben")]


class LabelsTest(Case):
    def test_the_house_ties_first(self):
        for frame in (PAIR, FULL, GREAT, Frame(("a",))):
            self.assertEqual(all_ties(frame, []), house_ties(frame))
        self.assertEqual(all_ties(PAIR, PAPERS), [*house_ties(PAIR), ("paper", 0), ("paper", 1)])
        self.assertEqual(all_ties(frame=PAIR, papers=tuple(PAPERS)), all_ties(PAIR, PAPERS))
        all_ties(PAIR, PAPERS).clear()
        self.assertEqual(len(all_ties(PAIR, PAPERS)), 8)

    def test_scopes(self):
        for label in house_ties(FULL):
            self.assertEqual(scope_of(FULL, PAPERS, label), tie_scope(FULL, label))
        self.assertEqual(scope_of(PAIR, PAPERS, ("paper", 0)), (("day", "fire"), ("day", "feast")))
        self.assertEqual(
            scope_of(frame=PAIR, papers=PAPERS, label=("paper", 1)), (("day", "feast"), ("begin", ""), ("heard", "ann"))
        )

    def test_unknown_ties(self):
        for label in (
            ("paper", 2), ("paper", -1), ("paper", "0"), ("paper",), (), ("guest", "fire", "ann"), ("begin", "cid"),
            ("astray", "attic"), ("paper", 0, 0), ("what", "ann"), (("paper", 0),),
        ):
            self.assert_fails(UnknownTie(label), lambda: scope_of(PAIR, PAPERS, label))
        self.assert_fails(UnknownTie(("paper", 0)), lambda: scope_of(PAIR, [], ("paper", 0)))

    def test_papers_are_checked_ahead_of_everything_else(self):
        other = Frame(("fire",))
        past = Past(other, [0])
        for papers, error in (([*PAPERS, Clause()], EmptyClause()), ([Began("cid"), Clause()], UnknownName("cid"))):
            for call in (
                lambda: all_ties(PAIR, papers), lambda: scope_of(PAIR, papers, ("what",)),
                lambda: fits(PAIR, papers, past), lambda: is_supported(PAIR, papers, Lot(other), (), (), 0),
            ):
                self.assert_fails(error, call)


class FitsTest(Case):
    def test_against_the_words_of_the_ties(self):
        for frame, papers in cases(61, 25, most_choices=400):
            right = all_fitting(frame, papers)
            for past in all_fitting(frame, papers[:1]) + [
                Past(frame, [values_of(frame, name)[-1] for name in variables(frame)])
            ]:
                self.assertIs(fits(frame, papers, past), past in right)

    def test_pasts_that_break_one_tie_of_each_kind(self):
        frame = Frame(
            ("a", "b"), ("p", "q"), [("a", ("p", "q"))], marks=("m",), rolls=[("r", "a", (1,)), ("s", "b", (2,))],
            shelves=[("x", ("r", "s"))], last=4,
        )
        papers = [Apart("a", "b", 1)]
        up, down = ((0, 1), (1, 1)), ((0, -1), (1, -1))
        good = (1, 2, (0, 3), (1, 1), "p", ("p",), ("p", "a"), 0, 1, up, "")
        self.assertTrue(fits(frame, papers, Past(frame, good)))
        for at, value, kind in (
            (2, (2, 3), "guest"), (4, "q", "begin"), (8, 2, "hear"), (9, down, "sorted"), (10, "r", "astray"),
            (1, 1, "paper"),
        ):
            past = Past(frame, [*good[:at], value, *good[at + 1:]])
            self.assertFalse(fits(frame, papers, past))
            broken = {
                label[0] for label, _ in labelled(frame, papers)
                if not holds(frame, papers, label, {name: past[name] for name in variables(frame)})
            }
            self.assertEqual(broken, {kind})

    def test_other_frames(self):
        past = Past(Frame(("fire",)), [0])
        self.assert_fails(UnlikeFrames(), lambda: fits(PAIR, PAPERS, past))
        self.assertTrue(fits(frame=past.frame, papers=[], past=past))
        self.assertFalse(fits(past.frame, (OnDay("fire", 1, 9),), past))


class SupportTest(Case):
    def test_against_all_choices_in_small_lots(self):
        numbers = Numbers(77)
        kinds = {}
        for _ in range(260):
            frame = small_frame(numbers)
            papers = some_papers(numbers, frame, 3)
            lot = some_lot(numbers, frame)
            for label, scope in labelled(frame, papers):
                if many_values([lot[variable] for variable in scope]) <= 700:
                    found = supports(frame, papers, lot, label, scope)
                    parts = parts_of(papers[label[1]]) if label[0] == "paper" else []
                    name = "clause" if len(parts) > 1 else parts[0].words[0] if parts else f"house {label[0]}"
                    self.check(frame, papers, lot, label, found, kinds.setdefault(name, set()))
        # Each kind of tie, and each kind of statement, supports some values and does not support others.
        self.assertEqual(len(kinds), 22)
        for name, seen in kinds.items():
            self.assertEqual(seen, {True, False}, name)

    def check(self, frame, papers, lot, label, found, seen):
        for variable in scope_of(frame, papers, label):
            for value in values_of(frame, variable):
                right = (variable, value) in found
                self.assertIs(is_supported(frame, papers, lot, label, variable, value), right, (label, variable, value))
                if value in lot[variable]:
                    seen.add(right)

    def test_errors_in_their_order(self):
        lot, other = Lot(PAIR), Lot(Frame(("fire",)))
        day = ("day", "fire")
        self.assert_fails(UnlikeFrames(), lambda: is_supported(PAIR, PAPERS, other, ("what",), ("x", "y"), 0))
        self.assert_fails(UnknownTie(("what",)), lambda: is_supported(PAIR, PAPERS, lot, ("what",), ("x", "y"), 0))
        for variable in (("x", "y"), ("day", "fall"), ("stay", "ann")):
            self.assert_fails(
                UnknownVariable(variable), lambda: is_supported(PAIR, PAPERS, lot, ("paper", 0), variable, 0)
            )
        self.assertTrue(is_supported(frame=PAIR, papers=PAPERS, lot=lot, label=("paper", 0), variable=day, value=0))

    def test_values_that_the_row_does_not_have(self):
        lot = Lot(PAIR).without(("day", "fire"), 0)
        for value in (0, 7, -1, "ann", (), (0, 0), ((("a",),),)):
            self.assertIs(is_supported(PAIR, PAPERS, lot, ("paper", 0), ("day", "fire"), value), False)
        self.assertFalse(is_supported(PAIR, PAPERS, Lot.of(PAIR), ("begin", "ann"), ("begin", ""), "ann"))

    def test_an_empty_row_supports_nothing(self):
        # The second statement is true whatever the day is: but there is no choice for the day.
        papers = [OnDay("fire", 0, 3) | Began("ann")]
        lot = Lot(PAIR).only(("day", "fire"))
        self.assertFalse(is_supported(PAIR, papers, lot, ("paper", 0), ("begin", ""), "ann"))
        self.assertTrue(is_supported(PAIR, papers, Lot(PAIR), ("paper", 0), ("begin", ""), "ann"))

    def test_large_scopes_in_short_time(self):
        papers = [
            Filed("attic", "rolla", "rollb") | Filed("desk", "rollc", "rolld") | Filed("attic", "rolle", "rollf"),
            Together("ann", "ben") | Whole("week", "month") | ~SameRule("attic", "desk"),
            ~Present("ann", "eventa") | ~Present("ben", "eventb") | ~Together("cid", "dot"),
        ]
        lot = Lot(GREAT)
        begun = process_time()
        for label in [("astray", "attic"), ("hear", "dot"), ("paper", 0), ("paper", 1), ("paper", 2)]:
            for variable in scope_of(GREAT, papers, label):
                value = lot[variable][-1]
                self.assertTrue(is_supported(GREAT, papers, lot, label, variable, value), (label, variable))
        self.assertLess(process_time() - begun, 3)

    def test_five_rolls_of_five_events(self):
        label, astray, rule = ("astray", "attic"), ("astray", "attic"), ("rule", "attic")
        rising = ((2, 1), (0, 1), (1, 1))
        lot = Lot(GREAT).only(rule, rising)
        for at, event in enumerate(EVENTS[:5]):
            lot = lot.only(("day", event), *range(4 * at, 4 * at + 4))
        self.assertTrue(is_supported(GREAT, [], lot, label, astray, ""))
        self.assertFalse(is_supported(GREAT, [], lot, label, astray, "rollb"))
        # Only where the second event may be behind the third one, its roll may be in a wrong pair.
        later = Lot(GREAT).only(rule, rising).only(astray, "", "rollb")
        for at, event in enumerate(EVENTS[:5]):
            later = later.only(("day", event), *range(4 * at, 4 * at + 5))
        self.assertFalse(is_supported(GREAT, [], later, label, astray, "rollb"))
        later = later | Lot(GREAT, [
            (9,) if name == ("day", "eventb") else () for name in variables(GREAT)
        ])
        self.assertTrue(is_supported(GREAT, [], later, label, astray, "rollb"))
        self.assertTrue(is_supported(GREAT, [], later, label, ("day", "eventb"), 9))
        settled = later.only(astray, "rollb")
        self.assertFalse(is_supported(GREAT, [], settled, label, ("day", "eventb"), 4))
        self.assertTrue(is_supported(GREAT, [], settled, label, ("day", "eventb"), 9))
        self.assertTrue(is_supported(GREAT, [], settled, label, ("day", "eventc"), 8))
        self.assertFalse(is_supported(GREAT, [], settled, label, ("day", "eventc"), 9))

    def test_a_guest_of_four_meetings(self):
        label = ("hear", "ann")
        lot = Lot(GREAT).only(("heard", "ann"), 7).only(("source", "ann"), (), ("ann",), ("ben", "eventc"))
        self.assertFalse(is_supported(GREAT, [], lot, label, ("source", "ann"), ()))
        self.assertFalse(is_supported(GREAT, [], lot, label, ("source", "ann"), ("ann",)))
        self.assertTrue(is_supported(GREAT, [], lot, label, ("source", "ann"), ("ben", "eventc")))
        self.assertFalse(is_supported(GREAT, [], lot, label, ("day", "eventc"), 8))
        self.assertTrue(is_supported(GREAT, [], lot, label, ("day", "eventb"), 8))
        self.assertTrue(is_supported(GREAT, [], lot, label, ("heard", "ben"), 6))
        self.assertFalse(is_supported(GREAT, [], lot, label, ("heard", "ben"), 7))
        self.assertTrue(is_supported(GREAT, [], lot, label, ("heard", PEOPLE[3]), 21))


if __name__ == "__main__":
    unittest.main()
