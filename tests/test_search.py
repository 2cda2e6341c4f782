import unittest
from itertools import islice
from math import comb
from time import process_time

from fittingpasts.closing import close
from fittingpasts.errors import EmptyClause, UnknownName, UnlikeFrames
from fittingpasts.frames import Frame
from fittingpasts.lots import Lot
from fittingpasts.search import count_pasts, first_past, pasts, true_lot
from fittingpasts.statements import Apart, Astray, Began, Clause, Dated, Filed, Heard, OnDay, Rises, Together
from fittingpasts.ties import fits
from fittingpasts.variables import values_of, variables
from tests.helpers import Case, Numbers
from tests.houses import PAIR
from tests.papers import (
    ALIKE, CROWDED, EVENTS, GREAT, GREAT_PAPERS, PEOPLE, all_fitting, cases, some_lot, tight_cases,
)
from tests.test_closing import ROW, ROW_PAPERS

CASES = cases(88, 90) + cases(3, 45, most_choices=12000, least_people=2) + tight_cases(4, 200)
FITTING = [(frame, papers, all_fitting(frame, papers)) for frame, papers in CASES]


def indexes(past):
    return [values_of(past.frame, name).index(value) for name, value in zip(variables(past.frame), past.assigned)]


class PastsTest(Case):
    def test_example_of_the_interface(self):
        self.assertEqual([count_pasts(ROW, ROW_PAPERS), first_past(ROW, ROW_PAPERS).assigned], [4, (0, 2, 4)])

    def test_against_all_pasts_one_by_one(self):
        none, many = 0, 0
        for frame, papers, right in FITTING:
            found = list(pasts(frame, papers))
            self.assertEqual(found, right)
            self.assertEqual(found, sorted(found, key=indexes))
            self.assertEqual(first_past(frame, papers), right[0] if right else None)
            none += not right
            many += len(right) > 20
        self.assertGreater(none, 10)
        self.assertGreater(many, 10)

    def test_with_a_lot(self):
        numbers = Numbers(2)
        smaller = 0
        for frame, papers, right in FITTING:
            lot = some_lot(numbers, frame)
            inside = [past for past in right if past in lot]
            self.assertEqual(list(pasts(frame, papers, lot)), inside)
            self.assertEqual(first_past(frame, papers, lot), inside[0] if inside else None)
            smaller += len(inside) < len(right)
        self.assertGreater(smaller, 10)

    def test_lots_without_values(self):
        for lot in (Lot.of(ROW), Lot(ROW).only(("day", "fall"))):
            self.assertEqual(list(pasts(ROW, [], lot)), [])
            self.assertIsNone(first_past(frame=ROW, papers=[], lot=lot))

    def test_no_papers_by_default(self):
        self.assertEqual(next(pasts(frame=ROW, papers=(), lot=None)).assigned, (0, 0, 0))
        self.assertEqual(first_past(ROW).assigned, (0, 0, 0))
        self.assertEqual(len(list(pasts(ROW))), 6 ** 3)

    def test_each_is_yielded_before_all_are_looked_for(self):
        begun = process_time()
        found = list(islice(pasts(GREAT), 40))
        self.assertEqual(found, sorted(found, key=indexes))
        self.assertEqual(found[0].assigned[:6], (0,) * 6)
        self.assertEqual(len({str(past) for past in found}), 40)
        for past in found[::10]:
            self.assertTrue(fits(GREAT, [], past))
        self.assertLess(process_time() - begun, 4)

    def test_errors_in_their_order(self):
        other = Lot(Frame(("fire",)))
        for call in (first_past, lambda *rows: list(pasts(*rows))):
            self.assert_fails(UnknownName("fair"), lambda: call(ROW, [OnDay("fair", 1, 2), Clause()], other))
            self.assert_fails(UnlikeFrames(), lambda: call(ROW, ROW_PAPERS, other))
        self.assert_fails(EmptyClause(), lambda: count_pasts(ROW, [Clause()]))
        self.assert_fails(EmptyClause(), lambda: true_lot(ROW, [Clause()]))

    def test_errors_come_when_it_is_iterated(self):
        iterated = pasts(ROW, [Clause()])
        self.assert_fails(EmptyClause(), lambda: next(iterated))


class CountTest(Case):
    def test_most_below_at_and_above_the_number(self):
        for frame, papers, right in FITTING:
            many = len(right)
            for most in {1, 2, max(1, many - 1), max(1, many), many + 1, 1000}:
                self.assertEqual(count_pasts(frame, papers, most=most), min(many, most))
            self.assertEqual(count_pasts(frame=frame, papers=tuple(papers)), min(many, 1000))

    def test_far_more_pasts_than_can_be_listed(self):
        begun = process_time()
        for papers in ([], GREAT_PAPERS):
            self.assertEqual(count_pasts(GREAT, papers), 1000)
            for most in (10 ** 5, 10 ** 9):
                self.assertEqual(count_pasts(GREAT, papers, most=most), most)
        self.assertEqual(count_pasts(Frame(EVENTS, last=20), most=10 ** 18), 21 ** 8)
        chain = [Apart(EVENTS[at], EVENTS[at + 1], 1) for at in range(7)]
        self.assertEqual(count_pasts(Frame(EVENTS, last=9), chain, most=10 ** 9), 45)
        self.assertEqual(count_pasts(Frame(EVENTS, last=20), chain, most=10 ** 9), comb(21, 8))
        self.assertEqual(count_pasts(GREAT, CROWDED), 0)
        self.assertLess(process_time() - begun, 10)

    def test_stays_that_go_with_many_others(self):
        # Of the stays on three days, six, each has some that have a common day with it.
        stays = [(come, go) for come in range(3) for go in range(come, 3)]
        met = [[come <= last and first <= go for first, last in stays] for come, go in stays]
        chains = [1] * len(stays)
        for many in range(2, 5):
            chains = [sum(chains[at] for at in range(len(stays)) if row[at]) for row in met]
            people = PEOPLE[:many]
            papers = [Together(person, other) for person, other in zip(people, people[1:])]
            # One of them begins the news, the others hear nothing: there are no meetings.
            right = many * sum(chains)
            self.assertEqual(count_pasts(Frame(("a",), people, last=2), papers, most=10 ** 6), 3 * right)
            self.assertEqual(count_pasts(Frame(("a",), people, last=2), papers, most=3 * right), 3 * right)
            self.assertEqual(count_pasts(Frame(("a",), people, last=2), papers, most=3 * right - 1), 3 * right - 1)


class TrueLotTest(Case):
    def test_against_all_fitting_pasts(self):
        smaller = 0
        for frame, papers, right in FITTING:
            lot = true_lot(frame, papers)
            self.assertEqual(lot, Lot.of(frame, *right))
            self.assertTrue(lot.part_of(close(frame, papers)))
            self.assertEqual(close(frame, papers, lot), lot)
            smaller += lot != close(frame, papers)
        self.assertGreater(smaller, 4)

    def test_where_it_differs_from_the_closed_lot(self):
        # Each two of three events may be on two days: but not the three.
        frame = Frame(("a", "b", "c", "d"), last=1)
        papers = [~Apart("a", "b", 0, 0), ~Apart("b", "c", 0, 0), ~Apart("a", "c", 0, 0)]
        self.assertEqual(close(frame, papers), Lot(frame))
        self.assertEqual(true_lot(frame=frame, papers=papers), Lot.of(frame))
        frame = Frame(("a", "b", "c", "d"), last=2)
        papers = [*papers, *[~Apart("d", name, 0, 0) | OnDay("d", 1, 1) for name in "abc"]]
        self.assertEqual(close(frame, papers), Lot(frame))
        self.assertEqual(true_lot(frame, papers)[("day", "d")], (1,))

    def test_no_papers_by_default(self):
        self.assertEqual(true_lot(ROW), Lot(ROW))
        self.assertEqual(true_lot(PAIR), true_lot(PAIR, ()))

    def test_far_too_many_pasts_to_list(self):
        begun = process_time()
        for papers in (
            [], GREAT_PAPERS, [Apart(EVENTS[at], EVENTS[at + 1], 1) for at in range(7)],
            [Together("ann", "ben") | Began("cid"), Dated("eventa", "week", 11), Heard("dot", "eventd")],
        ):
            lot = true_lot(GREAT, papers)
            self.assertTrue(lot.part_of(close(GREAT, papers)))
            self.assertEqual(close(GREAT, papers, lot), lot)
            self.check_some(papers, lot)
        self.assertEqual(true_lot(GREAT, CROWDED), Lot.of(GREAT))
        self.assertLess(process_time() - begun, 25)

    def check_some(self, papers, lot):
        """Some values in the lot are values of pasts, some others are not."""
        for at, variable in enumerate(variables(GREAT)):
            every = values_of(GREAT, variable)
            inside, outside = lot[variable], [value for value in every if value not in lot[variable]]
            for row, right in ((inside[at % len(inside)::61], True), (outside[at % 7::97], False)):
                for value in row[:1]:
                    found = first_past(GREAT, papers, Lot(GREAT).only(variable, value))
                    self.assertIs(found is not None, right, (variable, value))

    def test_shelves_of_rolls_that_are_alike(self):
        begun = process_time()
        lot = true_lot(ALIKE, [~Astray("attic")])
        self.assertEqual(lot[("astray", "attic")], ("",))
        # Without rollc the rolls on the desk are of one day: then rollc is in no wrong pair.
        self.assertEqual(lot[("astray", "desk")], ("", "rolle", "rolla", "rollf", "rollb"))
        lot = true_lot(ALIKE, [Apart("eventa", "eventb", 1), Apart("eventc", "eventb", 1), OnDay("eventf", 0, 9)])
        self.assertNotIn("", lot[("astray", "attic")])
        self.assertTrue(lot.part_of(close(ALIKE, [OnDay("eventf", 0, 9)])))
        self.assertLess(process_time() - begun, 10)

    def test_rules_that_no_day_allows(self):
        # The rolls were written at once: then the size alone decides, and one roll may be astray, but not two.
        rolls = [(name, "a", (size,)) for name, size in zip("rstuv", (2, 1, 2, 1, 2))]
        frame = Frame(("a", "b"), marks=("size",), rolls=rolls, shelves=[("x", tuple("rstuv"))], last=20)
        self.assertFalse(close(frame).is_empty())
        self.assertEqual(true_lot(frame), Lot.of(frame))
        self.assertEqual(count_pasts(frame), 0)
        frame = Frame(("a", "b"), marks=("size",), rolls=rolls, shelves=[("x", tuple("rst"))], last=20)
        self.assertEqual(true_lot(frame)[("astray", "x")], ("r", "s", "t"))
        self.assertEqual(true_lot(frame, [Rises("x", "size")])[("astray", "x")], ("r", "s"))
        self.assertEqual(true_lot(frame, [Filed("x", "s", "r")]), true_lot(frame, [Rises("x", "size")]))


if __name__ == "__main__":
    unittest.main()
