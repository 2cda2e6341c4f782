import unittest
from itertools import combinations
from time import process_time

from fittingpasts.conflicts import best_question, conflict, least_dropped
from fittingpasts.errors import EmptyClause, NoPast, NoQuestion, UnknownName
from fittingpasts.frames import Frame
from fittingpasts.lots import Lot
from fittingpasts.refuting import judge_refutation
from fittingpasts.statements import Apart, Began, Clause, Heard, OnDay, Present, Rises, Together
from fittingpasts.ties import fits
from tests.helpers import Case, Numbers
from tests.papers import (
    CROWDED, EVENTS, GREAT, GREAT_PAPERS, all_fitting, cases, some_papers, some_statement, tight_cases,
)

PAIR = Frame(("fire", "feast"), last=4)
PAIR_PAPERS = [Apart("fire", "feast", 3), OnDay("fire", 0, 4), OnDay("feast", 0, 2)]
# No rule sorts the shelf, whichever roll is astray.
UNSORTED = Frame(
    ("a", "b"), marks=("size",), rolls=[(name, "a", (size,)) for name, size in zip("rstuv", (2, 1, 2, 1, 2))],
    shelves=[("x", tuple("rstuv"))], last=20,
)


def samples(seed, many, most_papers):
    """Small frames with papers that often contradict each other, and their pasts that hold the house ties."""
    numbers = Numbers(seed)
    rows = [(frame, papers[:most_papers]) for frame, papers in tight_cases(seed, many)]
    for frame, _ in cases(seed, many, most_papers, most_choices=500):
        papers = [paper for _ in range(3) for paper in some_papers(numbers, frame, 2)][:most_papers]
        rows.append((frame, papers))
    return [(frame, papers, all_fitting(frame, [])) for frame, papers in rows]


SAMPLES = samples(6, 60, 6)


def fitting(whole, papers, left):
    return [past for past in whole if all(papers[at].holds(past) for at in left)]


class ConflictTest(Case):
    def test_example_of_the_interface(self):
        self.assertEqual([conflict(PAIR, PAIR_PAPERS), least_dropped(PAIR, PAIR_PAPERS)[0]], [[0, 2], (0,)])

    def test_against_leaving_out_one_by_one(self):
        seen = {}
        for frame, papers, whole in SAMPLES:
            left = list(range(len(papers)))
            right = None
            if not fitting(whole, papers, left):
                for at in range(len(papers)):
                    if not fitting(whole, papers, [other for other in left if other != at]):
                        left.remove(at)
                right = left
            self.assertEqual(conflict(frame, papers), right)
            seen[-1 if right is None else len(right)] = True
        self.assertLessEqual({-1, 1, 2, 3}, set(seen))

    def test_what_remains_contradicts_and_less_does_not(self):
        for frame, papers, whole in SAMPLES:
            found = conflict(frame, papers)
            if found:
                self.assertEqual(fitting(whole, papers, found), [])
                for at in found:
                    self.assertNotEqual(fitting(whole, papers, [other for other in found if other != at]), [])

    def test_equal_papers_and_two_contradictions(self):
        first, second = Apart("fire", "feast", 1), Apart("feast", "fire", 1)
        self.assertEqual(conflict(PAIR, [first, first, second]), [1, 2])
        self.assertEqual(conflict(PAIR, [first, second, second]), [0, 2])
        self.assertEqual(conflict(PAIR, [first, second, OnDay("fire", 9, 9), OnDay("fire", 0, 4)]), [2])
        self.assertEqual(conflict(PAIR, [OnDay("fire", 0, 1), OnDay("fire", 3, 4), first, second]), [2, 3])

    def test_without_papers(self):
        self.assertIsNone(conflict(PAIR, []))
        self.assertIsNone(conflict(frame=PAIR, papers=PAIR_PAPERS[:2]))
        self.assertEqual(conflict(UNSORTED, []), [])
        self.assertEqual(conflict(UNSORTED, [OnDay("a", 0, 1), OnDay("b", 9, 8)]), [])

    def test_papers_are_checked(self):
        for call in (conflict, least_dropped, best_question):
            self.assert_fails(EmptyClause(), lambda: call(PAIR, [Clause(), Began("ann")]))
            self.assert_fails(UnknownName("ann"), lambda: call(PAIR, [Began("ann"), Clause()]))


class LeastDroppedTest(Case):
    def test_against_all_choices_of_papers(self):
        seen = set()
        for frame, papers, whole in SAMPLES:
            if not whole:
                continue
            right = next(
                (dropped, pasts[0])
                for many in range(len(papers) + 1) for dropped in combinations(range(len(papers)), many)
                for pasts in [fitting(whole, papers, [at for at in range(len(papers)) if at not in dropped])] if pasts
            )
            found = least_dropped(frame, papers)
            self.assertEqual(found, right)
            self.assertIs(type(found), tuple)
            seen.add(len(right[0]))
        self.assertLessEqual({0, 1, 2}, seen)

    def test_the_least_past_of_the_others(self):
        dropped, past = least_dropped(PAIR, tuple(PAIR_PAPERS))
        self.assertEqual([dropped, past.assigned], [(0,), (0, 0)])
        dropped, past = least_dropped(frame=PAIR, papers=[PAIR_PAPERS[0], PAIR_PAPERS[2], PAIR_PAPERS[0]])
        self.assertEqual([dropped, past.assigned], [(1,), (0, 3)])
        self.assertEqual(least_dropped(PAIR, [])[0], ())
        self.assertEqual(least_dropped(PAIR, [OnDay("fire", 9, 9)] * 2)[0], (0, 1))

    def test_where_no_past_holds_the_house_ties(self):
        for papers in ([], [OnDay("a", 0, 1), OnDay("b", 9, 8)]):
            error = self.caught(NoPast, lambda: least_dropped(UNSORTED, papers))
            self.assertTrue(judge_refutation(UNSORTED, [], error.refutation))


class BestQuestionTest(Case):
    def sizes(self, frame, whole, papers, claim):
        right = fitting(whole, papers, range(len(papers)))
        lots = [Lot.of(frame, *[past for past in right if claim.holds(past) is truth]) for truth in (True, False)]
        return [lot.size for lot in lots]

    def test_against_the_true_lots(self):
        numbers = Numbers(3)
        seen = set()
        for frame, papers, whole in SAMPLES:
            papers = papers[:3]
            claims = [some_statement(numbers, frame) for _ in range(numbers.between(1, 5))]
            rows = [self.sizes(frame, whole, papers, claim) for claim in claims]
            best = min(range(len(claims)), key=lambda at: (max(rows[at]), sum(rows[at]), at))
            self.assertEqual(best_question(frame, papers, *claims), (best, *rows[best]))
            seen.add(best)
        self.assertGreater(len(seen), 3)

    def test_equal_numbers_for_several_claims(self):
        claim, other = OnDay("fire", 0, 1), OnDay("feast", 0, 1)
        found = best_question(PAIR, [], claim, other, ~claim)
        self.assertEqual(found, (0, 7, 8))
        self.assertEqual(best_question(PAIR, (), ~other, other, claim), (0, 8, 7))
        # The greater number is the same, but one of the claims leaves no more than that on one side.
        self.assertEqual(best_question(PAIR, [], OnDay("fire", 0, 9), Apart("fire", "feast", -4)), (0, 10, 0))

    def test_without_claims(self):
        self.assert_fails(NoQuestion(), lambda: best_question(PAIR, []))
        self.assert_fails(NoQuestion(), lambda: best_question(UNSORTED, []))
        self.assert_fails(EmptyClause(), lambda: best_question(PAIR, [Clause()]))

    def test_where_no_past_fits(self):
        papers = [OnDay("fire", 0, 1), OnDay("fire", 3, 4)]
        self.assertEqual(best_question(PAIR, papers, OnDay("feast", 0, 1), OnDay("fire", 0, 1)), (0, 0, 0))
        self.assertEqual(best_question(UNSORTED, [], OnDay("b", 0, 1)), (0, 0, 0))

    def test_the_claims_are_checked_in_order_behind_the_papers(self):
        claims = [OnDay("fire", 0, 1), OnDay("fair", 0, 1), Began("ann")]
        self.assert_fails(UnknownName("fair"), lambda: best_question(PAIR, [], *claims))
        self.assert_fails(EmptyClause(), lambda: best_question(PAIR, [Clause()], *claims))


class GreatestFrameTest(Case):
    def test_in_short_time(self):
        begun = process_time()
        self.assertIsNone(conflict(GREAT, GREAT_PAPERS))
        self.assertEqual(conflict(GREAT, [*GREAT_PAPERS[:5], *CROWDED, Apart("eventa", "eventb", 1)]), list(range(5, 11)))
        dropped, past = least_dropped(GREAT, CROWDED)
        self.assertEqual(dropped, (0,))
        self.assertTrue(fits(GREAT, CROWDED[1:], past))
        papers = [
            Apart("eventa", "eventb", 1), Apart("eventb", "eventa", 1), Began("ann"), ~Began("ann"),
            ~Together("ann", "ben"), ~Present("cid", "eventa"),
        ]
        self.assertEqual(least_dropped(GREAT, papers)[0], (0, 2, 4, 5))
        claims = [Together("ann", "ben"), Began("ann"), Rises("attic", "size"), Heard("dot", EVENTS[3])]
        at, yes, no = best_question(GREAT, GREAT_PAPERS, *claims)
        self.assertEqual(best_question(GREAT, GREAT_PAPERS, claims[at]), (0, yes, no))
        self.assertGreater(min(yes, no), 500)
        self.assertLess(process_time() - begun, 20)


if __name__ == "__main__":
    unittest.main()
