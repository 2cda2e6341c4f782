import unittest

from fittingpasts.errors import (
    EmptyClause, NothingToRedo, NothingToUndo, OutOfRange, TooMany, UnknownName, UnknownPaper,
)
from fittingpasts.paperlist import PaperList
from fittingpasts.statements import Apart, Began, Clause, OnDay
from tests.helpers import BIG, Case, Numbers
from tests.houses import PAIR

ONE, TWO, THREE = Began("ann"), OnDay("fire", 1, 2), ~Apart("fire", "feast", 1) | Began("ben")
BAD = Began("cid")


def state(papers):
    """What a caller sees of a list of papers."""
    return (papers.listed(), papers.limit, papers.size, papers.changes)


class Model:
    """A list of papers as the points tell it, with copies of all that was."""

    def __init__(self):
        self.papers, self.limit, self.next = [], 8, 1
        self.done, self.undone = [], []

    def change(self, papers, limit):
        self.done.append((self.papers, self.limit))
        self.undone = []
        self.papers, self.limit = papers, limit

    def enter(self, *papers):
        if len(self.papers) + len(papers) > self.limit:
            return "TooMany"
        numbers = list(range(self.next, self.next + len(papers)))
        if papers:
            clauses = [paper if isinstance(paper, Clause) else Clause(paper) for paper in papers]
            self.change(self.papers + list(zip(numbers, clauses)), self.limit)
            self.next += len(papers)
        return numbers

    def withdraw(self, number):
        found = [clause for known, clause in self.papers if known == number]
        if not found:
            return "UnknownPaper"
        self.change([pair for pair in self.papers if pair[0] != number], self.limit)
        return found[0]

    def set_limit(self, value):
        if value not in range(1, 21) or value < len(self.papers):
            return "OutOfRange"
        self.change(self.papers, value)
        return None

    def undo(self):
        if not self.done:
            return "NothingToUndo"
        self.undone.append((self.papers, self.limit))
        self.papers, self.limit = self.done.pop()
        return None

    def redo(self):
        if not self.undone:
            return "NothingToRedo"
        self.done.append((self.papers, self.limit))
        self.papers, self.limit = self.undone.pop()
        return None

    def state(self):
        return (self.papers, self.limit, len(self.papers), len(self.done))


def tried(papers, name, *rows):
    """What a method returns, or the name of its error."""
    try:
        return getattr(papers, name)(*rows)
    except (TooMany, UnknownPaper, OutOfRange, NothingToUndo, NothingToRedo) as error:
        return type(error).__name__


class EnteringTest(Case):
    def test_the_beginning(self):
        papers = PaperList(frame=PAIR)
        self.assertEqual(state(papers), ([], 8, 0, 0))
        self.assertEqual(papers.frame, PAIR)

    def test_numbers_and_clauses(self):
        papers = PaperList(PAIR)
        self.assertEqual(papers.enter(ONE, THREE), [1, 2])
        self.assertEqual(papers.enter(TWO), [3])
        self.assertEqual(papers.listed(), [(1, Clause(ONE)), (2, THREE), (3, Clause(TWO))])
        self.assertEqual(papers.found(2), THREE)
        self.assertEqual(papers.found(number=1), Clause(ONE))
        for _, clause in papers.listed():
            self.assertIsInstance(clause, Clause)
        self.assertEqual([papers.size, papers.changes], [3, 2])

    def test_without_papers(self):
        papers = PaperList(PAIR)
        self.assertEqual(papers.enter(), [])
        self.assertEqual(state(papers), ([], 8, 0, 0))
        papers.enter(ONE)
        papers.undo()
        self.assertEqual(papers.enter(), [])
        papers.redo()
        self.assertEqual(papers.listed(), [(1, Clause(ONE))])

    def test_numbers_are_not_given_again(self):
        papers = PaperList(PAIR)
        papers.enter(ONE, TWO)
        papers.withdraw(2)
        self.assertEqual(papers.enter(TWO), [3])
        papers.undo()
        self.assertEqual(papers.enter(TWO, THREE), [4, 5])
        papers.undo()
        papers.undo()
        papers.undo()
        self.assertEqual(papers.listed(), [])
        self.assertEqual(papers.enter(ONE), [6])

    def test_a_later_paper_is_wrong(self):
        papers = PaperList(PAIR)
        papers.enter(ONE)
        before = state(papers)
        for rows, error in (
            ((ONE, BAD, Clause()), UnknownName("cid")), ((Clause(), BAD), EmptyClause()),
            ((ONE, Clause(ONE, ONE, TWO, TWO)), TooMany(3)), ((*[ONE] * 9, BAD), UnknownName("cid")),
            ((ONE,) * 8, TooMany(8)),
        ):
            self.assert_fails(error, lambda: papers.enter(*rows))
            self.assertEqual(state(papers), before)
        self.assertEqual(papers.enter(TWO), [2])

    def test_too_many_with_the_present_limit(self):
        papers = PaperList(PAIR)
        papers.limit = 2
        self.assert_fails(TooMany(2), lambda: papers.enter(ONE, ONE, ONE))
        self.assertEqual(papers.enter(ONE, ONE), [1, 2])
        self.assert_fails(TooMany(2), lambda: papers.enter(ONE))
        papers.set_limit(3)
        self.assertEqual(papers.enter(ONE), [3])
        self.assert_fails(TooMany(3), lambda: papers.enter(ONE))
        self.assertEqual(papers.enter(), [])

    def test_withdrawing(self):
        papers = PaperList(PAIR)
        papers.enter(ONE, THREE)
        self.assertEqual(papers.withdraw(number=1), Clause(ONE))
        self.assertEqual(papers.listed(), [(2, THREE)])
        for number in (1, 3, 0, -1, BIG):
            self.assert_fails(UnknownPaper(number), lambda: papers.withdraw(number))
            self.assert_fails(UnknownPaper(number), lambda: papers.found(number))
        self.assertEqual(papers.changes, 2)

    def test_lists_that_are_returned_are_new(self):
        papers = PaperList(PAIR)
        papers.enter(ONE, TWO).clear()
        papers.listed().clear()
        self.assertEqual(papers.size, 2)


class LimitTest(Case):
    def test_by_the_method_and_by_the_property(self):
        for assigned in (False, True):
            papers = PaperList(PAIR)
            papers.enter(ONE, TWO)

            def change(value):
                if assigned:
                    papers.limit = value
                    return None
                return papers.set_limit(value=value)

            for value in (2, 20, 3, 3):
                self.assertIsNone(change(value))
                self.assertEqual(papers.limit, value)
            self.assertEqual(papers.changes, 5)
            for value in (0, 1, 21, -1, BIG, -BIG):
                self.assert_fails(OutOfRange(value), lambda: change(value))
            self.assertEqual(state(papers)[1:], (3, 2, 5))
            papers.undo()
            papers.undo()
            papers.undo()
            self.assertEqual(papers.limit, 2)
        papers = PaperList(PAIR)
        papers.limit = 1
        self.assertEqual(papers.limit, 1)

    def test_the_numbers_of_papers_cannot_be_set(self):
        papers = PaperList(PAIR)
        for name in ("size", "changes"):
            with self.assertRaises(AttributeError):
                setattr(papers, name, 3)


class ChangesTest(Case):
    def test_each_kind_of_change(self):
        papers = PaperList(PAIR)
        states = [state(papers)]
        for call in (
            lambda: papers.enter(ONE, TWO), lambda: papers.withdraw(1), lambda: papers.set_limit(5),
            lambda: papers.set_limit(5), lambda: papers.enter(THREE),
        ):
            call()
            states.append(state(papers))
        for at in range(4, -1, -1):
            self.assertIsNone(papers.undo())
            self.assertEqual(state(papers), states[at])
        self.assert_fails(NothingToUndo(), papers.undo)
        for at in range(1, 6):
            self.assertIsNone(papers.redo())
            self.assertEqual(state(papers), states[at])
        self.assert_fails(NothingToRedo(), papers.redo)
        self.assertEqual(state(papers), states[5])

    def test_a_new_change_behind_an_undo(self):
        for change in (lambda papers: papers.enter(TWO), lambda papers: papers.set_limit(8)):
            papers = PaperList(PAIR)
            papers.enter(ONE)
            papers.enter(ONE)
            papers.undo()
            change(papers)
            self.assert_fails(NothingToRedo(), papers.redo)
            self.assertEqual(papers.changes, 2)

    def test_a_call_that_raises_is_no_change(self):
        papers = PaperList(PAIR)
        papers.enter(ONE)
        papers.enter(TWO)
        papers.undo()
        for call in (
            lambda: papers.enter(BAD), lambda: papers.enter(*[ONE] * 8), lambda: papers.withdraw(2),
            lambda: papers.set_limit(0), lambda: papers.set_limit(21),
        ):
            with self.assertRaises(ValueError):
                call()
        self.assertEqual(papers.changes, 1)
        papers.redo()
        self.assertEqual(papers.listed(), [(1, Clause(ONE)), (2, Clause(TWO))])

    def test_irregular_calls_against_a_model(self):
        numbers = Numbers(21)
        raised = set()
        for _ in range(40):
            papers, model = PaperList(PAIR), Model()
            for _ in range(60):
                name, rows = numbers.choice([
                    ("enter", [numbers.choice([ONE, TWO, THREE]) for _ in range(numbers.below(4))]),
                    ("withdraw", [numbers.between(0, model.next)]), ("set_limit", [numbers.between(0, 21)]),
                    ("undo", []), ("undo", []), ("redo", []), ("enter", [ONE]),
                ])
                found, right = tried(papers, name, *rows), getattr(model, name)(*rows)
                self.assertEqual(found, right)
                self.assertEqual(state(papers), model.state())
                raised.add(right if isinstance(right, str) else None)
        self.assertEqual(raised, {None, "TooMany", "UnknownPaper", "OutOfRange", "NothingToUndo", "NothingToRedo"})


class TwinTest(Case):
    def test_a_twin_goes_its_own_way(self):
        papers = PaperList(PAIR)
        papers.enter(ONE, TWO, THREE)
        papers.withdraw(3)
        papers.limit = 4
        papers.enter(ONE)
        papers.undo()
        before = state(papers)
        twin = papers.twin()
        self.assertIs(type(twin), PaperList)
        self.assertEqual(state(twin), (*before[:3], 0))
        self.assertEqual(twin.frame, PAIR)
        self.assert_fails(NothingToUndo(), twin.undo)
        self.assert_fails(NothingToRedo(), twin.redo)
        self.assertEqual(twin.enter(THREE), [5])
        twin.withdraw(1)
        twin.limit = 9
        self.assertEqual(state(papers), before)
        papers.redo()
        self.assertEqual(papers.listed()[-1], (4, Clause(ONE)))
        self.assertEqual(papers.enter(TWO), [5])
        self.assertEqual(twin.listed(), [(2, Clause(TWO)), (5, THREE)])


if __name__ == "__main__":
    unittest.main()
