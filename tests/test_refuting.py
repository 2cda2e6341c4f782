import unittest
from time import process_time

from fittingpasts.closing import close, trail
from fittingpasts.errors import EmptyClause, UnknownName, UnlikeFrames
from fittingpasts.frames import Frame
from fittingpasts.lots import Lot
from fittingpasts.refuting import Refutation, judge_refutation, refute
from fittingpasts.search import first_past
from fittingpasts.statements import Apart, Clause, OnDay, Together
from fittingpasts.ties import is_supported, scope_of
from fittingpasts.variables import variables
from tests.helpers import Case, Numbers
from tests.papers import CROWDED, EVENTS, GREAT, GREAT_PAPERS, great_frame, some_lot
from tests.test_closing import ROW, ROW_PAPERS
from tests.test_search import FITTING

# Each two of three events may be on two days: but not the three.
THREE = Frame(("a", "b", "c", "d"), last=1)
UNEQUAL = [~Apart("a", "b", 0, 0), ~Apart("b", "c", 0, 0), ~Apart("a", "c", 0, 0)]
DAY = ("day", "a")
# For the fire on day 0 and on day 1, the steps that leave no day for the third event.
FIRST = Refutation([(("day", "b"), 0, ("paper", 0)), (("day", "c"), 1, ("paper", 1)),
                    (("day", "c"), 0, ("paper", 2))], None, [])
SECOND = Refutation([(("day", "b"), 1, ("paper", 0)), (("day", "c"), 0, ("paper", 1)),
                     (("day", "c"), 1, ("paper", 2))], None, [])
RIGHT = Refutation([], DAY, [(0, FIRST), (1, SECOND)])


def is_right(frame, papers, refutation, lot):
    """Point 92 word by word."""
    for variable, value, label in refutation.strikes:
        if value not in lot[variable] or variable not in scope_of(frame, papers, label):
            return False
        if is_supported(frame, papers, lot, label, variable, value):
            return False
        lot = lot.without(variable, value)
    if refutation.variable is None:
        return refutation.children == () and lot.is_broken()
    if tuple(value for value, _ in refutation.children) != lot[refutation.variable]:
        return False
    return all(
        is_right(frame, papers, child, lot.only(refutation.variable, value)) for value, child in refutation.children
    )


class RefutationTest(Case):
    def test_attributes(self):
        children = [[0, FIRST], [1, SECOND]]
        strikes = [[["day", "b"], 0, ["paper", 0]]]
        found = Refutation(strikes=strikes, variable=["day", "a"], children=children)
        strikes[0][0].clear()
        strikes.clear()
        children.clear()
        self.assertEqual(found.strikes, ((("day", "b"), 0, ("paper", 0)),))
        self.assertEqual(found.variable, DAY)
        self.assertEqual(found.children, ((0, FIRST), (1, SECOND)))
        self.assertIsNone(FIRST.variable)
        self.assertEqual(FIRST.children, ())

    def test_creating_checks_nothing(self):
        found = Refutation((("what", "ever", 5),), ("no", "such"), ((7, FIRST),))
        self.assertEqual(found.depth(), 1)

    def test_depth_and_steps(self):
        self.assertEqual([FIRST.depth(), FIRST.steps()], [0, 3])
        self.assertEqual([RIGHT.depth(), RIGHT.steps()], [1, 6])
        deep = Refutation(FIRST.strikes[:1], DAY, [(0, RIGHT), (1, FIRST)])
        self.assertEqual([deep.depth(), deep.steps()], [2, 10])
        self.assertEqual([Refutation((), DAY, ()).depth(), Refutation((), DAY, ()).steps()], [0, 0])


class RefuteTest(Case):
    def test_on_frames_with_and_without_fitting_pasts(self):
        refuted = 0
        for frame, papers, right in FITTING:
            found = refute(frame, papers)
            self.assertIs(found is None, bool(right))
            if found is not None:
                self.check(frame, papers, found, Lot(frame))
                self.assertTrue(judge_refutation(frame, papers, found))
                refuted += found.depth() > 0
        self.assertGreater(refuted, 3)

    def test_with_a_lot(self):
        numbers = Numbers(6)
        refuted = 0
        for frame, papers, right in FITTING:
            lot = some_lot(numbers, frame)
            if right and numbers.below(2):
                lot = lot.without(("day", frame.events[0]), *[past[("day", frame.events[0])] for past in right[::2]])
            found = refute(frame, papers, lot)
            self.assertIs(found is None, any(past in lot for past in right))
            if found is not None:
                self.check(frame, papers, found, lot)
                self.assertTrue(judge_refutation(frame, papers, found, lot))
                refuted += 1
        self.assertGreater(refuted, 20)

    def check(self, frame, papers, found, lot):
        self.assertTrue(is_right(frame, papers, found, lot))
        self.assertLessEqual(found.depth(), len(variables(frame)))

    def test_lots_without_values(self):
        for lot in (Lot.of(ROW), Lot(ROW).only(("day", "fall"))):
            found = refute(frame=ROW, papers=ROW_PAPERS, lot=lot)
            self.assertEqual([found.strikes, found.variable, found.children], [(), None, ()])
            self.assertTrue(judge_refutation(ROW, ROW_PAPERS, found, lot))
            self.assertFalse(judge_refutation(ROW, ROW_PAPERS, found))

    def test_no_papers_by_default(self):
        self.assertIsNone(refute(ROW))
        self.assertIsNone(refute(ROW, ROW_PAPERS))

    def test_errors_in_their_order(self):
        other = Lot(Frame(("fire",)))
        for call in (refute, lambda frame, papers, lot=None: judge_refutation(frame, papers, RIGHT, lot)):
            self.assert_fails(UnknownName("fair"), lambda: call(ROW, [OnDay("fair", 1, 2), Clause()], other))
            self.assert_fails(EmptyClause(), lambda: call(ROW, [Clause(), OnDay("fair", 1, 2)]))
            self.assert_fails(UnlikeFrames(), lambda: call(ROW, ROW_PAPERS, other))


class JudgeTest(Case):
    def judged(self, refutation, lot=None):
        return judge_refutation(THREE, UNEQUAL, refutation, lot)

    def test_the_one_that_is_told_and_others(self):
        self.assertTrue(self.judged(refute(THREE, UNEQUAL)))
        self.assertTrue(self.judged(RIGHT))
        self.assertTrue(judge_refutation(frame=THREE, papers=UNEQUAL, refutation=RIGHT, lot=None))
        self.assertTrue(is_right(THREE, UNEQUAL, RIGHT, Lot(THREE)))
        # Another variable, that has nothing to do with it, may be looked into first.
        self.assertTrue(self.judged(Refutation([], ("day", "d"), [(0, RIGHT), (1, RIGHT)])))

    def test_rows_with_one_value_or_none(self):
        lot = Lot(THREE).only(DAY, 0)
        one = Refutation([], DAY, [(0, FIRST)])
        self.assertTrue(self.judged(one, lot))
        self.assertFalse(self.judged(one))
        self.assertTrue(self.judged(Refutation([], DAY, [(0, one)]), lot))
        none = Refutation([], DAY, [])
        self.assertTrue(self.judged(none, Lot(THREE).only(DAY)))
        self.assertTrue(self.judged(Refutation([], None, []), Lot(THREE).only(DAY)))
        self.assertFalse(self.judged(none))
        self.assertFalse(self.judged(none, Lot(THREE).only(("day", "b"))))
        self.assertFalse(self.judged(Refutation([], DAY, [(0, FIRST)]), Lot(THREE).only(DAY)))
        struck = Refutation(FIRST.strikes, ("day", "c"), [])
        self.assertTrue(self.judged(struck, lot))
        # Behind the empty row more values may be struck, and other variables looked into.
        self.assertTrue(self.judged(Refutation(FIRST.strikes, ("day", "d"), [
            (0, Refutation([], None, [])), (1, Refutation([(("day", "b"), 1, ("paper", 1))], None, []))]), lot))

    def test_deep_ones(self):
        deep = FIRST
        for _ in range(2000):
            deep = Refutation([], DAY, [(0, deep)])
        self.assertTrue(self.judged(deep, Lot(THREE).only(DAY, 0)))
        self.assertEqual([deep.depth(), deep.steps()], [2000, 3])

    def test_children_that_are_wrong(self):
        for children in (
            [(0, FIRST)], [(1, SECOND)], [], [(0, FIRST), (1, SECOND), (1, SECOND)], [(0, FIRST), (0, FIRST)],
            [(1, SECOND), (0, FIRST)], [(0, FIRST), (2, SECOND)], [(0, FIRST), ("b", SECOND)],
            [(0, SECOND), (1, FIRST)], [(0, FIRST), (1, FIRST)], [(0, FIRST), (1, SECOND), (2, SECOND)],
            [(0, FIRST), (1, Refutation([], None, []))], [(0, FIRST), (((((),),),), SECOND)],
        ):
            self.assertFalse(self.judged(Refutation([], DAY, children)))

    def test_variables_that_are_wrong(self):
        children = RIGHT.children
        for variable in (("day", "e"), ("", ""), ("stay", "a"), 5, "a", (), ((("day", "a"),),), None):
            self.assertFalse(self.judged(Refutation([], variable, children)))
            self.assertFalse(self.judged(Refutation([], variable, [])))
        self.assertFalse(self.judged(Refutation([], ("day", "b"), children)))
        # No row is empty, or there are children although one is.
        self.assertFalse(self.judged(Refutation([], None, [])))
        self.assertFalse(self.judged(Refutation(FIRST.strikes, None, [(0, FIRST)]), Lot(THREE).only(DAY, 0)))

    def test_strikes_that_are_wrong(self):
        for at, strike in enumerate(FIRST.strikes):
            variable, value, label = strike
            for wrong in (
                (variable, 1 - value, label), (variable, 2, label), (variable, value, ("paper", 3)),
                (("day", "d"), value, label), (("day", "e"), value, label), (variable, value, 5), (5, 5, 5),
                (variable, value, ("paper", 1 if label[1] != 1 else 0)), (variable, ((((),),),), label),
            ):
                spoilt = Refutation([*FIRST.strikes[:at], wrong, *FIRST.strikes[at + 1:]], None, [])
                self.assertFalse(self.judged(Refutation([], DAY, [(0, spoilt), (1, SECOND)])), wrong)
            shorter = Refutation([*FIRST.strikes[:at], *FIRST.strikes[at + 1:]], None, [])
            self.assertFalse(self.judged(Refutation([], DAY, [(0, shorter), (1, SECOND)])))
        self.assertFalse(self.judged(Refutation(FIRST.strikes, DAY, RIGHT.children)))
        twice = Refutation([*FIRST.strikes[:1], *FIRST.strikes], None, [])
        self.assertFalse(self.judged(Refutation([], DAY, [(0, twice), (1, SECOND)])))

    def test_spoilt_ones_of_irregular_frames(self):
        spoilt = 0
        for frame, papers, right in FITTING:
            if right:
                # No refutation is right where a past fits: whatever strikes and children it has.
                for found in (Refutation([], None, []), Refutation(trail(frame, papers), None, [])):
                    self.assertFalse(judge_refutation(frame, papers, found))
                continue
            found = refute(frame, papers)
            for wrong in (
                Refutation(found.strikes[:-1], found.variable, found.children),
                Refutation(found.strikes, found.variable, found.children[1:]),
                Refutation(found.strikes, found.variable, found.children[::-1]),
                Refutation(found.strikes[::-1], found.variable, found.children),
            ):
                self.assertIs(
                    judge_refutation(frame, papers, wrong), is_right(frame, papers, wrong, Lot(frame))
                )
                spoilt += not judge_refutation(frame, papers, wrong)
        self.assertGreater(spoilt, 20)


class GreatestFrameTest(Case):
    def check(self, frame, papers):
        found = refute(frame, papers)
        self.assertLessEqual(found.depth(), len(variables(frame)))
        self.assertTrue(judge_refutation(frame, papers, found))
        self.assertIsNone(first_past(frame, papers))
        return found

    def test_in_short_time(self):
        begun = process_time()
        self.assertIsNone(refute(GREAT, GREAT_PAPERS))
        self.assertFalse(close(GREAT, CROWDED).is_broken())
        self.assertGreater(self.check(GREAT, CROWDED).depth(), 0)
        self.assertGreater(self.check(GREAT, [*GREAT_PAPERS, *CROWDED]).depth(), 0)
        chain = [Apart(EVENTS[at], EVENTS[at + 1], 1) for at in range(7)]
        self.check(GREAT, [*chain, Apart("eventh", "eventa", 1)])
        # Two guests of one meeting were surely in the house together.
        self.check(GREAT, [~Together("ann", "dot")])
        self.check(GREAT, [*GREAT_PAPERS[:6], ~Together("ben", "cid")])
        self.check(great_frame(5), [
            ~Apart(event, other, 0, 0) for at, event in enumerate(EVENTS[:7]) for other in EVENTS[:at]
        ])
        self.assertLess(process_time() - begun, 20)


if __name__ == "__main__":
    unittest.main()
