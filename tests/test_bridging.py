import unittest
from time import process_time

from fittingpasts.bridging import bridges, lean_trail
from fittingpasts.closing import judge_trail, trail
from fittingpasts.errors import EmptyClause, UnlikeFrames
from fittingpasts.frames import Frame
from fittingpasts.lots import Lot
from fittingpasts.statements import Apart, Clause, Heard, OnDay, Present, Rises, Told
from fittingpasts.ties import scope_of
from fittingpasts.variables import part_name
from tests.helpers import Case
from tests.houses import PAIR
from tests.papers import EVENTS, GREAT, GREAT_PAPERS, PEOPLE
from tests.test_closing import ROW, ROW_PAPERS, SAMPLES


class BridgesTest(Case):
    def test_trails_through_several_parts(self):
        papers = [OnDay("feast", 3, 3), Told("ann", "ben", "feast")]
        found = bridges(PAIR, papers, trail(PAIR, papers))
        self.assertEqual(found, [("orders", "stays"), ("orders", "tellings")])
        papers = [OnDay("ann+", 4, 6)]
        # The stay bounds the feast, and the feast bounds the other stay and the telling.
        found = bridges(frame=PAIR, papers=papers, strikes=list(trail(PAIR, papers)))
        self.assertEqual(found, [("orders", "stays"), ("orders", "tellings"), ("stays", "orders")])

    def test_each_once_ascending_by_the_scopes(self):
        many = 0
        for frame, papers, lot, _ in SAMPLES:
            strikes = trail(frame, papers, lot)
            right = {
                (part_name(other), part_name(variable))
                for variable, _, label in strikes for other in scope_of(frame, papers, label)
                if part_name(other) != part_name(variable)
            }
            found = bridges(frame, papers, strikes)
            self.assertEqual(found, sorted(right))
            many += len(found)
        self.assertGreater(many, 50)

    def test_no_bridges(self):
        self.assertEqual(bridges(ROW, ROW_PAPERS, trail(ROW, ROW_PAPERS)), [])
        self.assertEqual(bridges(GREAT, GREAT_PAPERS, ()), [])

    def test_from_stays_to_shelves(self):
        frame = Frame(
            ("fire", "feast"), ("ann",), rolls=[("deed", "fire", ()), ("will", "feast", ())],
            shelves=[("attic", ("deed", "will"))], last=5,
        )
        papers = [Apart("fire", "ann+", 1), Apart("ann-", "feast", 1), OnDay("ann+", 3, 3), ~Apart("fire", "feast", 4)]
        found = bridges(frame, [*papers, Rises("attic", "age")], trail(frame, [*papers, Rises("attic", "age")]))
        self.assertEqual(found, [("orders", "shelves"), ("orders", "stays"), ("stays", "orders")])

    def test_papers_are_checked(self):
        self.assert_fails(EmptyClause(), lambda: bridges(ROW, [Clause()], ()))


class LeanTrailTest(Case):
    def check(self, frame, papers, strikes, lot):
        lean = lean_trail(frame, papers, strikes, lot)
        self.assertIs(type(lean), tuple)
        self.assertIsNotNone(judge_trail(frame, papers, lean, lot))
        self.assertEqual(lean[-1], strikes[-1])
        self.assertEqual(list(lean), [strike for strike in strikes if strike in lean])
        for at in range(len(lean) - 1):
            less = (*lean[:at], *lean[at + 1:])
            self.assertIsNone(judge_trail(frame, papers, less, lot), lean[at])
        return lean

    def test_against_leaving_each_strike_out(self):
        shorter, longer = 0, 0
        for frame, papers, lot, _ in SAMPLES:
            strikes = trail(frame, papers, lot)
            if strikes:
                lean = self.check(frame, papers, strikes, lot)
                shorter += len(lean) < len(strikes)
                longer += len(lean) > 1
                self.assertEqual(lean_trail(frame, papers, lean, lot), lean)
        self.assertGreater(shorter, 30)
        self.assertGreater(longer, 10)

    def test_chains(self):
        frame = Frame(EVENTS, last=8)
        papers = [Apart(EVENTS[at], EVENTS[at + 1], 1) for at in range(7)]
        papers = [*papers, OnDay(EVENTS[0], 1, 8), Apart(EVENTS[7], EVENTS[0], 1)]
        strikes = trail(frame, papers)
        longest = max(len(self.check(frame, papers, strikes[:many], None)) for many in range(1, len(strikes)))
        self.assertGreater(longest, 3)

    def test_the_empty_trail_and_single_strikes(self):
        self.assertEqual(lean_trail(ROW, ROW_PAPERS, ()), ())
        self.assertEqual(lean_trail(frame=ROW, papers=ROW_PAPERS, strikes=[], lot=Lot(ROW)), ())
        strike = (("day", "fire"), 5, ("paper", 0))
        self.assertEqual(lean_trail(ROW, ROW_PAPERS, [strike]), (strike,))
        other = (("day", "fall"), 0, ("paper", 1))
        self.assertEqual(lean_trail(ROW, ROW_PAPERS, [other, strike]), (strike,))

    def test_errors(self):
        other = Lot(Frame(("fire",)))
        self.assert_fails(UnlikeFrames(), lambda: lean_trail(ROW, ROW_PAPERS, (), other))
        self.assert_fails(EmptyClause(), lambda: lean_trail(ROW, [Clause()], (), other))

    def test_what_is_passed_stays_as_it_is(self):
        strikes = list(trail(ROW, ROW_PAPERS))
        kept = list(strikes)
        lean_trail(ROW, ROW_PAPERS, strikes)
        bridges(ROW, ROW_PAPERS, strikes)
        self.assertEqual(strikes, kept)

    def test_the_greatest_frame_in_short_time(self):
        begun = process_time()
        for papers in (
            [*[OnDay(event, 5, 5) for event in EVENTS], *[Present(person, "eventh") for person in PEOPLE]],
            [*[Apart(EVENTS[at], EVENTS[at + 1], 1) for at in range(7)], Apart("eventh", "eventa", 1)],
            [*GREAT_PAPERS, OnDay("eventa", 15, 20), Heard("dot", "eventa")],
        ):
            strikes = trail(GREAT, papers)
            lean = lean_trail(GREAT, papers, strikes)
            self.assertIsNotNone(judge_trail(GREAT, papers, lean))
            self.assertEqual(lean[-1], strikes[-1])
        self.assertLess(process_time() - begun, 6)


if __name__ == "__main__":
    unittest.main()
