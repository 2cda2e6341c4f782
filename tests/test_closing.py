import unittest
from time import process_time

from fittingpasts.closing import close, judge_trail, trail
from fittingpasts.errors import EmptyClause, UnknownName, UnknownTie, UnlikeFrames
from fittingpasts.frames import Frame
from fittingpasts.lots import Lot
from fittingpasts.statements import Apart, Began, Clause, Dated, Heard, OnDay, Present, Told
from fittingpasts.ties import all_ties, is_supported, scope_of
from fittingpasts.variables import values_of, variables
from tests.helpers import Case, Numbers
from tests.houses import PAIR
from tests.papers import (
    CROWDED, EVENTS, GREAT, GREAT_PAPERS, closed, labelled, many_values, small_frame, some_lot, some_papers,
)

ROW = Frame(("fire", "feast", "fall"), last=5)
ROW_PAPERS = [Apart("fire", "feast", 2), Apart("feast", "fall", 2)]


def samples(seed, many):
    """Small frames with papers and lots, whose ties have few choices."""
    numbers = Numbers(seed)
    found = []
    while len(found) < many:
        frame = small_frame(numbers)
        papers, lot = some_papers(numbers, frame, 4), some_lot(numbers, frame)
        scopes = [scope for _, scope in labelled(frame, papers)]
        if all(many_values([lot[variable] for variable in scope]) <= 3000 for scope in scopes):
            found.append((frame, papers, lot, numbers.below(10 ** 6)))
    return found


SAMPLES = samples(5, 120)


def is_closed(frame, papers, lot):
    if lot.is_broken():
        return lot.is_empty()
    return all(
        is_supported(frame, papers, lot, label, variable, value)
        for label in all_ties(frame, papers) for variable in scope_of(frame, papers, label) for value in lot[variable]
    )


class CloseTest(Case):
    def test_example_of_the_interface(self):
        lot = close(ROW, ROW_PAPERS)
        self.assertEqual([lot[("day", name)] for name in ROW.events], [(0, 1), (2, 3), (4, 5)])

    def test_against_striking_by_all_choices(self):
        changed, emptied = 0, 0
        for frame, papers, lot, _ in SAMPLES:
            right = closed(frame, papers, lot)
            self.assertEqual(close(frame, papers, lot), right)
            changed += right != lot
            emptied += right.is_empty()
        self.assertGreater(changed, 60)
        self.assertGreater(emptied, 20)
        self.assertGreater(len(SAMPLES) - emptied, 20)

    def test_the_full_lot_and_no_papers_by_default(self):
        for frame, papers, _, _ in SAMPLES[:30]:
            self.assertEqual(close(frame, papers), close(frame, papers, Lot(frame)))
            self.assertEqual(close(frame), close(frame, [], None, order=[]))
            self.assertEqual(close(frame=frame, papers=tuple(papers), lot=None, order=()), close(frame, papers))

    def test_any_order_of_ties_and_papers(self):
        for frame, papers, lot, seed in SAMPLES[:60]:
            numbers = Numbers(seed)
            ties = all_ties(frame, papers)
            right = close(frame, papers, lot)
            for order in (ties, ties[::-1], ties[:1] * 2, [numbers.choice(ties) for _ in ties] if ties else []):
                self.assertEqual(close(frame, papers, lot, order=order), right)
                self.assertEqual(close(frame, papers, lot, order=tuple(order)), right)
            self.assertEqual(close(frame, papers[::-1], lot), right)
            self.assertEqual(close(frame, papers + papers, lot), right)

    def test_closed_lots_stay_as_they_are(self):
        for frame, papers, lot, _ in SAMPLES[:40]:
            right = close(frame, papers, lot)
            self.assertTrue(is_closed(frame, papers, right))
            self.assertEqual(close(frame, papers, right), right)
            self.assertTrue(right.part_of(lot))

    def test_broken_lots_get_empty(self):
        lot = Lot(ROW).only(("day", "fall"))
        for papers in ([], ROW_PAPERS):
            self.assertEqual(close(ROW, papers, lot), Lot.of(ROW))
        self.assertEqual(close(ROW, [], Lot.of(ROW)), Lot.of(ROW))
        self.assertTrue(close(ROW, [*ROW_PAPERS, Apart("fall", "fire", 0)]).is_empty())

    def test_facts_of_one_part_become_facts_of_another(self):
        papers = [OnDay("feast", 3, 3), Told("ann", "ben", "feast"), Heard("ann", "fire")]
        lot = close(PAIR, papers)
        self.assertEqual(lot[("heard", "ben")], (3,))
        # Ann told it at the feast: so she had heard before, and she was told at no other meeting.
        self.assertEqual(lot[("heard", "ann")], (0,))
        self.assertEqual(lot[("begin", "")], ("ann",))
        self.assertEqual(lot[("stay", "ben")][0], (0, 3))
        self.assertEqual(lot[("source", "ben")], (("ann", "feast"),))

    def test_errors_in_their_order(self):
        other = Lot(Frame(("fire",)))
        for call in (close, trail):
            self.assert_fails(UnknownName("fair"), lambda: call(
                ROW, [OnDay("fair", 1, 2), Clause()], other, order=[("what",)]))
            self.assert_fails(EmptyClause(), lambda: call(ROW, [Clause(), OnDay("fair", 1, 2)]))
            self.assert_fails(UnlikeFrames(), lambda: call(ROW, ROW_PAPERS, other, order=[("what",)]))
            for label in (("what",), ("paper", 2), ("paper", -1), ("begin", "ann"), ()):
                self.assert_fails(
                    UnknownTie(label), lambda: call(ROW, ROW_PAPERS, order=[("paper", 1), label, ("no",)])
                )
                self.assert_fails(UnknownTie(label), lambda: call(ROW, ROW_PAPERS, Lot.of(ROW), order=[label]))
        self.assert_fails(UnlikeFrames(), lambda: judge_trail(ROW, ROW_PAPERS, (), other))
        self.assert_fails(EmptyClause(), lambda: judge_trail(ROW, [Clause()], (), other))


def walk(case, frame, papers, lot, strikes):
    """Go along a trail, strike by strike; return the lot to which it leads."""
    for variable, value, label in strikes:
        case.assertFalse(lot.is_broken())
        case.assertIn(variable, scope_of(frame, papers, label))
        case.assertIn(value, lot[variable])
        case.assertFalse(is_supported(frame, papers, lot, label, variable, value))
        lot = lot.without(variable, value)
    return lot


class TrailTest(Case):
    def test_strike_by_strike_to_a_full_end(self):
        for frame, papers, lot, seed in SAMPLES:
            numbers = Numbers(seed)
            ties = all_ties(frame, papers)
            for order in ((), [numbers.choice(ties) for _ in range(3)] if ties else ()):
                strikes = trail(frame, papers, lot, order=order)
                self.assertIs(type(strikes), tuple)
                end = walk(self, frame, papers, lot, strikes)
                right = close(frame, papers, lot)
                self.assertEqual(end.is_broken(), right.is_broken())
                if not end.is_broken():
                    self.assertEqual(end, right)
                self.assertEqual(judge_trail(frame, papers, strikes, lot), end)
                self.assertEqual(judge_trail(frame, papers, [list(strike) for strike in strikes], lot), end)

    def test_broken_lots_have_the_empty_trail(self):
        self.assertEqual(trail(ROW, ROW_PAPERS, Lot(ROW).only(("day", "fall"))), ())
        self.assertEqual(trail(ROW, ROW_PAPERS, Lot.of(ROW)), ())
        self.assertEqual(trail(ROW), ())

    def test_cut_trails_are_right_too(self):
        for frame, papers, lot, _ in SAMPLES[:30]:
            strikes = trail(frame, papers, lot)
            for many in range(len(strikes)):
                found = judge_trail(frame, papers, strikes[:many], lot)
                self.assertEqual(found, walk(self, frame, papers, lot, strikes[:many]))

    def test_spoilt_trails(self):
        spoilt = 0
        for frame, papers, lot, seed in SAMPLES[:60]:
            numbers = Numbers(seed)
            strikes = trail(frame, papers, lot)
            if not strikes:
                continue
            at = numbers.below(len(strikes))
            variable, value, label = strikes[at]
            others = [name for name in variables(frame) if name not in scope_of(frame, papers, label)]
            wrong = [
                (variable, value, ("what", "ever")), (variable, value, ("paper", len(papers))), (variable, value, ()),
                (variable, value, 5), (("day", "fair"), value, label), (5, value, label), ((), value, label),
                (variable, "fair", label), (variable, 99, label), (variable, (((),),), label),
                *[(name, values_of(frame, name)[0], label) for name in others[:2]],
            ]
            for strike in wrong:
                self.assertIsNone(judge_trail(frame, papers, [*strikes[:at], strike, *strikes[at + 1:]], lot))
            self.assertIsNone(judge_trail(frame, papers, (*strikes, strikes[at]), lot))
            self.assertIsNone(judge_trail(frame, papers, (*strikes[:at + 1], *strikes[at:]), lot))
            spoilt += 1
        self.assertGreater(spoilt, 30)

    def test_supported_values(self):
        for frame, papers, lot, _ in SAMPLES[:40]:
            for label in all_ties(frame, papers):
                for variable in scope_of(frame, papers, label):
                    for value in lot[variable][:2]:
                        right = is_supported(frame, papers, lot, label, variable, value)
                        found = judge_trail(frame, papers, ((variable, value, label),), lot)
                        self.assertEqual(found, None if right else lot.without(variable, value))

    def test_trails_that_go_on_behind_the_first_empty_row(self):
        papers = [*ROW_PAPERS, OnDay("fire", 9, 9)]
        strikes = trail(ROW, papers, order=[("paper", 2)])
        self.assertEqual(len(strikes), 6)
        # Without a day for the fire no choice is left for the feast either.
        more = (*strikes, *[(("day", "feast"), day, ("paper", 0)) for day in range(6)])
        found = judge_trail(ROW, papers, more)
        self.assertEqual(found.rows, ((), (), (0, 1, 2, 3, 4, 5)))
        self.assertIsNone(judge_trail(ROW, papers, (*more, (("day", "fall"), 0, ("paper", 2)))))
        self.assertIsNotNone(judge_trail(ROW, papers, (*more, (("day", "fall"), 0, ("paper", 1)))))

    def test_the_empty_trail_is_right(self):
        lot = Lot(ROW).without(("day", "fire"), 3)
        self.assertEqual(judge_trail(ROW, ROW_PAPERS, ()), Lot(ROW))
        self.assertEqual(judge_trail(frame=ROW, papers=ROW_PAPERS, strikes=[], lot=lot), lot)

    def test_what_is_passed_stays_as_it_is(self):
        papers = list(ROW_PAPERS)
        lot, order = Lot(ROW), [("paper", 1)]
        strikes = list(trail(ROW, papers, lot, order=order))
        kept = list(strikes)
        judge_trail(ROW, papers, strikes, lot)
        close(ROW, papers, lot, order=order)
        self.assertEqual([papers, lot, order, strikes], [ROW_PAPERS, Lot(ROW), [("paper", 1)], kept])


class GreatestFrameTest(Case):
    def test_in_short_time(self):
        begun = process_time()
        for papers in ([], GREAT_PAPERS, CROWDED, [Apart(EVENTS[at], EVENTS[at + 1], 1) for at in range(7)]):
            lot = close(GREAT, papers)
            self.assertEqual(judge_trail(GREAT, papers, trail(GREAT, papers)), lot)
        self.assertFalse(close(GREAT, CROWDED).is_broken())
        self.assertTrue(close(GREAT, [*CROWDED, OnDay("eventf", 4, 4), OnDay("eventg", 4, 4)]).is_empty())
        self.assertLess(process_time() - begun, 6)

    def test_dated_days_bound_tellings_and_stays(self):
        papers = [Dated("eventa", "week", 0), Present("ann", "eventa"), Began("ann")]
        lot = close(GREAT, papers)
        self.assertEqual(lot[("heard", "ann")], (0,))
        self.assertEqual(lot[("source", "ann")], (("ann",),))


if __name__ == "__main__":
    unittest.main()
