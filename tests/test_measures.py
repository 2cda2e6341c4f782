import unittest
from time import process_time

from fittingpasts.errors import EmptyClause, NoPast, UnknownName
from fittingpasts.frames import Frame
from fittingpasts.measures import Measure, days_between, sure_heard, sure_order, sure_together
from fittingpasts.orders import Order
from fittingpasts.refuting import judge_refutation
from fittingpasts.statements import Apart, Began, Clause, Dated, Heard, OnDay, Together
from tests.helpers import Case, Numbers
from tests.houses import PAIR
from tests.papers import CROWDED, EVENTS, GREAT, GREAT_PAPERS, PEOPLE
from tests.test_closing import ROW, ROW_PAPERS
from tests.test_search import FITTING


def points_of(frame):
    return [*frame.events, *[person + end for person in frame.people for end in "+-"]]


class DaysBetweenTest(Case):
    def check(self, frame, papers, right, first, second):
        found = days_between(frame, papers, first, second)
        days = [past.day_of(second) - past.day_of(first) for past in right]
        self.assertEqual([found.least, found.most], [min(days), max(days)])
        self.assertEqual(found.low, right[days.index(min(days))])
        self.assertEqual(found.high, right[days.index(max(days))])
        self.assertTrue(judge_refutation(
            frame, [*papers, Apart(first, second, None, found.least - 1)], found.below))
        self.assertTrue(judge_refutation(frame, [*papers, Apart(first, second, found.most + 1)], found.above))

    def test_against_all_fitting_pasts(self):
        numbers = Numbers(4)
        stays = 0
        for frame, papers, right in FITTING:
            points = points_of(frame)
            first, second = numbers.choice(points), numbers.choice(points)
            if right:
                self.check(frame, papers, right, first, second)
                stays += not first.isalpha() and not second.isalpha()
            else:
                self.fails(frame, papers, lambda: days_between(frame, papers, first, second))
        self.assertGreater(stays, 5)

    def fails(self, frame, papers, call):
        error = self.caught(NoPast, call)
        self.assertTrue(judge_refutation(frame, papers, error.refutation))

    def test_twice_the_same_point(self):
        for point in ("feast", "ann+", "ben-"):
            found = days_between(PAIR, [], point, point)
            self.assertEqual([found.least, found.most], [0, 0])
            self.assertEqual(found.low, found.high)
            self.assertTrue(judge_refutation(PAIR, [Apart(point, point, None, -1)], found.below))
            self.assertTrue(judge_refutation(PAIR, [Apart(point, point, 1)], found.above))

    def test_comings_and_goings(self):
        papers = [Apart("ann+", "ann-", None, 2), OnDay("feast", 3, 3)]
        found = days_between(PAIR, papers, "ann+", "ann-")
        self.assertEqual([found.least, found.most], [0, 2])
        found = days_between(PAIR, papers, "ann-", "ben+")
        self.assertEqual([found.least, found.most], [-5, 0])
        found = days_between(frame=PAIR, papers=tuple(papers), first="feast", second="ben-")
        self.assertEqual([found.least, found.most], [0, 3])

    def test_attributes(self):
        found = Measure(least=1, most=2, low=3, high=4, below=5, above=6)
        self.assertEqual(vars(found), {"least": 1, "most": 2, "low": 3, "high": 4, "below": 5, "above": 6})

    def test_errors_in_their_order(self):
        self.assert_fails(EmptyClause(), lambda: days_between(ROW, [Clause(), Began("ann")], "no", "none"))
        contradicting = [*ROW_PAPERS, OnDay("fire", 9, 9)]
        for first, second, name in (("no", "none", "no"), ("fire", "none", "none"), ("ann+", "fire", "ann+"),
                                    ("fire", "fire-", "fire-")):
            self.assert_fails(UnknownName(name), lambda: days_between(ROW, contradicting, first, second))
        self.fails(ROW, contradicting, lambda: days_between(ROW, contradicting, "fire", "feast"))


class SureTest(Case):
    def test_orders_against_all_fitting_pasts(self):
        many = 0
        for frame, papers, right in FITTING:
            if not right:
                self.fails(frame, papers, lambda: sure_order(frame, papers))
                continue
            found = sure_order(frame, papers)
            pairs = [
                (event, other) for event in frame.events for other in frame.events
                if all(past.day_of(event) < past.day_of(other) for past in right)
            ]
            self.assertEqual(found, Order(frame.events, pairs))
            self.assertEqual(found.names, frame.events)
            many += len(pairs)
        self.assertGreater(many, 20)

    def test_people_against_all_fitting_pasts(self):
        together, heard = 0, 0
        numbers = Numbers(10)
        for frame, papers, right in FITTING:
            point = numbers.choice(points_of(frame))
            if not right:
                self.fails(frame, papers, lambda: sure_together(frame, papers))
                self.fails(frame, papers, lambda: sure_heard(frame, papers, point))
                continue
            pairs = [
                (person, other) for at, person in enumerate(frame.people) for other in frame.people[at + 1:]
                if all(Together(person, other).holds(past) for past in right)
            ]
            people = [person for person in frame.people if all(Heard(person, point).holds(past) for past in right)]
            self.assertEqual(sure_together(frame, papers), pairs)
            self.assertEqual(sure_heard(frame, papers, point), people)
            together += len(pairs)
            heard += len(people)
        self.assertGreater(together, 5)
        self.assertGreater(heard, 5)

    def fails(self, frame, papers, call):
        error = self.caught(NoPast, call)
        self.assertTrue(judge_refutation(frame, papers, error.refutation))

    def test_frames_without_people(self):
        self.assertEqual([sure_together(ROW, []), sure_heard(ROW, [], "fire")], [[], []])
        self.assertEqual(sure_order(ROW, ROW_PAPERS).pairs(), [("fire", "feast"), ("fire", "fall"), ("feast", "fall")])
        self.assertEqual(sure_order(ROW, []).pairs(), [])

    def test_errors_in_their_order(self):
        contradicting = [*ROW_PAPERS, OnDay("fire", 9, 9)]
        for call in (sure_order, sure_together, lambda frame, papers: sure_heard(frame, papers, "none")):
            self.assert_fails(EmptyClause(), lambda: call(ROW, [Clause(), Began("ann")]))
        self.assert_fails(UnknownName("none"), lambda: sure_heard(ROW, contradicting, "none"))
        self.assert_fails(UnknownName("ann-"), lambda: sure_heard(ROW, [], point="ann-"))
        for call in (sure_order, sure_together, lambda frame, papers: sure_heard(frame, papers, "fire")):
            self.fails(ROW, contradicting, lambda: call(ROW, contradicting))

    def test_where_the_houses_ties_alone_cannot_be_held(self):
        rolls = [(name, "a", (size,)) for name, size in zip("rstuv", (2, 1, 2, 1, 2))]
        frame = Frame(("a", "b"), marks=("size",), rolls=rolls, shelves=[("x", tuple("rstuv"))], last=20)
        self.fails(frame, [], lambda: days_between(frame, [], "a", "b"))
        self.fails(frame, [], lambda: sure_order(frame, []))


class GreatestFrameTest(Case):
    def test_in_short_time(self):
        begun = process_time()
        for papers in ([], GREAT_PAPERS):
            pairs = [(person, other) for at, person in enumerate(PEOPLE) for other in PEOPLE[at + 1:]]
            self.assertEqual(sure_together(GREAT, papers), pairs)
            self.assertEqual(sure_heard(GREAT, papers, "eventd"), [])
            for first, second in (("eventa", "eventh"), ("ann+", "ben-")):
                found = days_between(GREAT, papers, first, second)
                self.assertTrue(judge_refutation(GREAT, [*papers, Apart(first, second, found.most + 1)], found.above))
        self.assertEqual([found.least, found.most], [3, 20])
        self.assertEqual(sure_order(GREAT, GREAT_PAPERS).pairs(), [("eventa", "eventh")])
        chain = [Apart(EVENTS[at], EVENTS[at + 1], 1) for at in range(7)]
        self.assertEqual(len(sure_order(GREAT, [*chain, Dated("eventa", "week", 0)]).pairs()), 28)
        error = self.caught(NoPast, lambda: sure_order(GREAT, CROWDED))
        self.assertTrue(judge_refutation(GREAT, CROWDED, error.refutation))
        self.assertLess(process_time() - begun, 15)


if __name__ == "__main__":
    unittest.main()
