import unittest
from time import process_time

from fittingpasts.closing import close
from fittingpasts.conflicts import conflict
from fittingpasts.desk import Desk
from fittingpasts.errors import (
    ArchiveError, Contradiction, EmptyClause, NoPast, NothingToRedo, NothingToUndo, OutOfRange, TooMany, UnknownName,
    UnknownPaper,
)
from fittingpasts.frames import Frame
from fittingpasts.paperlist import PaperList
from fittingpasts.refuting import judge_refutation
from fittingpasts.statements import Apart, Began, Clause, Heard, OnDay, Present, Together, Told
from fittingpasts.variables import values_of, variables
from fittingpasts.verdicts import judge_verdict, survey
from tests.helpers import BIG, Case, Numbers
from tests.houses import PAIR
from tests.papers import CROWDED, GREAT, GREAT_PAPERS, cases, some_papers, some_statement, tight_cases
from tests.test_conflicts import UNSORTED
from tests.test_paperlist import state

ROW = Frame(("fire", "feast"), last=4)
AHEAD, BEHIND = Apart("fire", "feast", 1), Apart("feast", "fire", 1)
EARLY = OnDay("fire", 0, 1)


def everything(desk):
    """All that a caller sees of a desk, without changing it."""
    return (*state(desk), desk.asked(), desk.news())


def filled_desk(frame, papers):
    """A desk with those of the papers that do not contradict the ones before."""
    desk = Desk(frame)
    for paper in papers:
        try:
            desk.enter(paper)
        except Contradiction:
            continue
    return desk


class Broken(Exception):
    """What a deed raises in these tests."""


class MakingTest(Case):
    def test_a_desk_is_a_list_of_papers(self):
        desk = Desk(frame=ROW)
        self.assertIsInstance(desk, PaperList)
        self.assertEqual(state(desk), ([], 8, 0, 0))
        self.assertEqual([desk.frame, desk.asked(), desk.news()], [ROW, [], []])

    def test_where_no_past_holds_the_house_ties(self):
        error = self.caught(NoPast, lambda: Desk(UNSORTED))
        self.assertTrue(judge_refutation(UNSORTED, [], error.refutation))


class EnteringTest(Case):
    def test_example_of_the_interface(self):
        desk = Desk(ROW)
        self.assertEqual(desk.enter(AHEAD), [1])
        error = self.caught(Contradiction, lambda: desk.enter(BEHIND))
        self.assertEqual(error.numbers, (1,))
        self.assertTrue(judge_refutation(ROW, [AHEAD, BEHIND], error.refutation))
        self.assertEqual(state(desk), ([(1, Clause(AHEAD))], 8, 1, 1))
        self.assertEqual(desk.enter(EARLY), [2])

    def test_against_conflicts(self):
        numbers = Numbers(15)
        refused = set()
        rows = [(frame, [some_papers(numbers, frame, 2) for _ in range(6)])
                for frame, _ in cases(15, 60, most_choices=6000)]
        for frame, entries in rows + [(frame, [[paper] for paper in papers]) for frame, papers in tight_cases(15, 40)]:
            desk = Desk(frame)
            for papers in entries:
                kept = [clause for _, clause in desk.listed()]
                right = conflict(frame, [*kept, *papers])
                if desk.size + len(papers) > 8:
                    self.assert_fails(TooMany(8), lambda: desk.enter(*papers))
                elif right is None:
                    desk.enter(*papers)
                    if desk.size > 2:
                        desk.withdraw(desk.listed()[numbers.below(2)][0])
                else:
                    before = state(desk)
                    error = self.caught(Contradiction, lambda: desk.enter(*papers))
                    against = tuple(desk.listed()[at][0] for at in right if at < len(kept))
                    self.assertEqual(error.numbers, against)
                    self.assertTrue(judge_refutation(frame, [*kept, *papers], error.refutation))
                    self.assertEqual(state(desk), before)
                    refused.add(len(against))
        self.assertLessEqual({0, 1, 2}, refused)

    def test_new_papers_that_contradict_by_themselves(self):
        desk = Desk(ROW)
        desk.enter(EARLY)
        error = self.caught(Contradiction, lambda: desk.enter(AHEAD, BEHIND))
        self.assertEqual(error.numbers, ())
        self.assertTrue(judge_refutation(ROW, [EARLY, AHEAD, BEHIND], error.refutation))

    def test_numbers_of_withdrawn_papers_are_not_told(self):
        desk = Desk(ROW)
        desk.enter(EARLY, AHEAD, OnDay("feast", 0, 3))
        desk.withdraw(2)
        desk.enter(AHEAD)
        error = self.caught(Contradiction, lambda: desk.enter(BEHIND))
        self.assertEqual(error.numbers, (4,))

    def test_errors_in_their_order(self):
        desk = Desk(ROW)
        desk.limit = 2
        desk.enter(AHEAD)
        for rows, error in (
            ((BEHIND, Clause(), Began("ann")), EmptyClause()), ((BEHIND, BEHIND, Began("ann")), UnknownName("ann")),
            ((BEHIND, BEHIND), TooMany(2)), ((EARLY, EARLY), TooMany(2)),
        ):
            self.assert_fails(error, lambda: desk.enter(*rows))
        self.caught(Contradiction, lambda: desk.enter(BEHIND))
        self.assertEqual(desk.enter(), [])
        self.assertEqual(desk.changes, 2)
        self.assertEqual(desk.enter(EARLY), [2])

    def test_undo_and_redo(self):
        desk = Desk(ROW)
        desk.enter(AHEAD)
        desk.undo()
        self.assertEqual(desk.enter(BEHIND), [2])
        desk.undo()
        desk.redo()
        self.assertEqual(desk.listed(), [(2, Clause(BEHIND))])
        self.assertEqual(self.caught(Contradiction, lambda: desk.enter(AHEAD)).numbers, (2,))
        self.assertEqual(desk.withdraw(2), Clause(BEHIND))
        self.assertEqual(desk.enter(AHEAD), [3])
        desk.undo()
        desk.undo()
        self.assertEqual(desk.listed(), [(2, Clause(BEHIND))])
        self.assert_fails(NothingToRedo(), lambda: (desk.set_limit(3), desk.redo()))
        self.assert_fails(OutOfRange(0), lambda: desk.set_limit(0))
        self.assert_fails(UnknownPaper(1), lambda: desk.found(1))


class AskingTest(Case):
    def test_closed_words_and_questions(self):
        numbers = Numbers(2)
        for frame, papers in cases(2, 30, most_choices=4000):
            desk = filled_desk(frame, papers)
            kept = [clause for _, clause in desk.listed()]
            self.assertEqual(desk.closed(), close(frame, kept))
            claims = [some_statement(numbers, frame) for _ in range(3)]
            words = [word for _, word in survey(frame, kept, *claims)]
            for claim, word in zip(claims, words):
                self.assertEqual(desk.word_on(claim=claim), word)
                found = desk.ask(claim=claim)
                self.assertEqual(found.word, word)
                self.assertTrue(judge_verdict(frame, kept, claim, found))
            self.assertEqual(desk.asked(), [(str(claim), word) for claim, word in zip(claims, words)])

    def test_asking_is_no_change(self):
        desk = Desk(ROW)
        desk.enter(AHEAD)
        desk.undo()
        desk.ask(AHEAD)
        desk.word_on(BEHIND)
        desk.redo()
        desk.ask(AHEAD)
        desk.undo()
        self.assertEqual(desk.asked(), [(str(AHEAD), "open"), (str(AHEAD), "sure")])
        desk.asked().clear()
        self.assertEqual(len(desk.asked()), 2)

    def test_questions_that_raise_are_not_kept(self):
        desk = Desk(ROW)
        for claim in (Began("ann"), OnDay("fair", 0, 1), Apart("fire", "ann+")):
            with self.assertRaises(UnknownName):
                desk.ask(claim)
            with self.assertRaises(UnknownName):
                desk.word_on(claim)
        self.assertEqual(desk.asked(), [])
        desk.ask(~AHEAD)
        self.assertEqual(desk.asked(), [("not apart fire feast 1 -", "open")])

    def test_news(self):
        desk = Desk(PAIR)
        self.assertEqual(desk.news(), [])
        desk.enter(OnDay("feast", 3, 3), Told("ann", "ben"))
        full, now = close(PAIR), desk.closed()
        right = [
            (name, tuple(value for value in full[name] if value not in now[name]))
            for name in variables(PAIR) if full[name] != now[name]
        ]
        self.assertEqual(desk.news(), right)
        self.assertEqual(dict(desk.news())[("day", "feast")], (0, 1, 2, 4, 5, 6))
        self.assertNotIn(("day", "fire"), dict(desk.news()))
        desk.undo()
        self.assertEqual(desk.news(), [])
        desk.redo()
        desk.news().clear()
        self.assertEqual(desk.news(), right)

    def test_news_against_values_that_the_house_takes_itself(self):
        # Without papers the house ties already take values: these are no news.
        frame = Frame(("a",), rolls=[("r", "a", ()), ("s", "a", ())], shelves=[("x", ("r", "s"))], last=3)
        self.assertNotEqual(close(frame)[("astray", "x")], values_of(frame, ("astray", "x")))
        desk = Desk(frame)
        desk.enter(OnDay("a", 1, 3))
        self.assertEqual(desk.news(), [(("day", "a"), (0,))])


class ReopenedTest(Case):
    def test_for_each_number_and_for_several(self):
        desk = Desk(ROW)
        desk.enter(AHEAD, EARLY, OnDay("feast", 3, 4))
        claims = [Apart("fire", "feast", 2), AHEAD, EARLY, OnDay("feast", 0, 2), Apart("fire", "feast", 4)]
        for claim in claims:
            desk.ask(claim)
        self.assertEqual([word for _, word in desk.asked()], ["sure", "sure", "sure", "never", "open"])
        before = everything(desk)
        self.assertEqual(desk.reopened(1), [])
        self.assertEqual(desk.reopened(2), [0, 2])
        self.assertEqual(desk.reopened(3), [0, 3])
        self.assertEqual(desk.reopened(1, 2), [0, 1, 2])
        self.assertEqual(desk.reopened(3, 1, 3), [0, 1, 3])
        self.assertEqual(desk.reopened(3, 2, 1), [0, 1, 2, 3])
        self.assertEqual(desk.reopened(), [])
        self.assertEqual(everything(desk), before)
        desk.reopened(2).clear()
        self.assertEqual(desk.reopened(2), [0, 2])

    def test_without_numbers_the_present_papers_are_taken(self):
        desk = Desk(ROW)
        desk.enter(AHEAD)
        desk.ask(AHEAD)
        desk.ask(EARLY)
        desk.enter(EARLY)
        self.assertEqual(desk.reopened(), [1])
        desk.withdraw(1)
        self.assertEqual(desk.reopened(), [0, 1])
        desk.undo()
        desk.undo()
        self.assertEqual(desk.reopened(), [])

    def test_unknown_numbers(self):
        desk = Desk(ROW)
        desk.enter(AHEAD, EARLY)
        desk.withdraw(1)
        for rows, number in (((1,), 1), ((2, 3, 1), 3), ((0, 1), 0), ((-1,), -1), ((BIG, 1), BIG)):
            self.assert_fails(UnknownPaper(number), lambda: desk.reopened(*rows))
        self.assertEqual(Desk(ROW).reopened(), [])

    def test_against_surveys(self):
        numbers = Numbers(31)
        found = 0
        for frame, papers in cases(31, 40, most_choices=3000) + tight_cases(31, 60):
            desk = filled_desk(frame, papers)
            claims = [some_statement(numbers, frame) for _ in range(4)]
            for claim in claims:
                desk.ask(claim)
            words = [word for _, word in desk.asked()]
            gone = [number for number, _ in desk.listed() if numbers.below(2)]
            left = [clause for number, clause in desk.listed() if number not in gone]
            right = [at for at, word in survey(frame, left, *claims) if word != words[at]]
            self.assertEqual(desk.reopened(*gone), right if gone else [])
            found += len(right)
        self.assertGreater(found, 10)


class TwinTest(Case):
    def test_a_twin_without_questions(self):
        desk = Desk(ROW)
        desk.enter(AHEAD)
        desk.limit = 5
        desk.ask(AHEAD)
        before = everything(desk)
        twin = desk.twin()
        self.assertIs(type(twin), Desk)
        self.assertEqual(state(twin), ([(1, Clause(AHEAD))], 5, 1, 0))
        self.assertEqual(twin.asked(), [])
        self.assertEqual(self.caught(Contradiction, lambda: twin.enter(BEHIND)).numbers, (1,))
        self.assertEqual(twin.enter(EARLY), [2])
        twin.ask(EARLY)
        twin.withdraw(1)
        self.assertEqual(everything(desk), before)
        self.assertEqual(desk.enter(EARLY), [2])


class SupposeTest(Case):
    def desk(self):
        """A desk with papers, questions, and changes to take back and to make again."""
        desk = Desk(ROW)
        desk.enter(AHEAD)
        desk.enter(EARLY, OnDay("feast", 0, 3))
        desk.ask(AHEAD)
        desk.limit = 6
        desk.withdraw(2)
        desk.enter(EARLY)
        desk.undo()
        desk.undo()
        return desk

    def check_same(self, desk, before):
        """The desk is as before, also what can be taken back and made again, and the next number."""
        self.assertEqual(everything(desk), before)
        twin = self.desk()
        for name in ("redo", "redo", *["undo"] * 6):
            for one in (desk, twin):
                try:
                    getattr(one, name)()
                except (NothingToUndo, NothingToRedo):
                    pass
            self.assertEqual(everything(desk), everything(twin))
        self.assertEqual(desk.enter(EARLY), twin.enter(EARLY))

    def test_deeds_that_return(self):
        for papers in ((), (EARLY,), (OnDay("fire", 0, 0), OnDay("feast", 2, 3))):
            desk = self.desk()
            before = everything(desk)
            seen = []
            found = desk.suppose(lambda given: seen.append(given) or [given.listed(), given.word_on(EARLY)], *papers)
            self.assertIs(seen[0], desk)
            numbers = [1, 2, 3, *range(5, 5 + len(papers))]
            self.assertEqual([number for number, _ in found[0]], numbers)
            self.check_same(desk, before)

    def test_deeds_that_raise(self):
        for raised in (Broken("no"), UnknownPaper(7), KeyError("x")):
            desk = self.desk()
            before = everything(desk)

            def deed(given):
                given.withdraw(1)
                given.ask(BEHIND)
                raise raised

            with self.assertRaises(type(raised)) as caught:
                desk.suppose(deed, EARLY)
            self.assertIs(caught.exception, raised)
            self.check_same(desk, before)

    def test_whatever_the_deed_does(self):
        def enters(given):
            given.enter(OnDay("fire", 1, 1))
            given.enter(OnDay("feast", 2, 2))

        def withdraws(given):
            for number, _ in given.listed():
                given.withdraw(number)

        def takes_back(given):
            while given.changes:
                given.undo()
            given.enter(BEHIND)

        def makes_again(given):
            given.undo()
            given.redo()
            given.enter(EARLY)

        def sets_the_limit(given):
            given.limit = 20
            given.set_limit(19)
            given.enter(*[AHEAD] * 10)

        def asks(given):
            given.ask(BEHIND)
            given.ask(EARLY)

        def contradicts(given):
            given.enter(BEHIND)

        for deed in (enters, withdraws, takes_back, makes_again, sets_the_limit, asks, contradicts):
            for papers in ((), (OnDay("fire", 1, 1),)):
                desk = self.desk()
                before = everything(desk)
                if deed is contradicts:
                    self.caught(Contradiction, lambda: desk.suppose(deed, *papers))
                else:
                    self.assertIsNone(desk.suppose(deed, *papers))
                self.check_same(desk, before)

    def test_deeds_that_suppose_themselves(self):
        desk = self.desk()
        before = everything(desk)

        def inner(given):
            given.withdraw(1)
            return [number for number, _ in given.listed()]

        def outer(given):
            told = given.suppose(inner, OnDay("feast", 3, 3))
            return told, given.enter(OnDay("feast", 1, 1))

        self.assertEqual(desk.suppose(outer, EARLY), ([2, 3, 5, 6], [6]))
        self.check_same(desk, before)

    def test_papers_that_are_refused(self):
        for papers, error in (
            ((BEHIND,), Contradiction), ((Clause(),), EmptyClause), ((EARLY, Began("ann")), UnknownName),
            ((EARLY,) * 9, TooMany),
        ):
            desk = self.desk()
            before = everything(desk)
            called = []
            self.caught(error, lambda: desk.suppose(called.append, *papers))
            self.assertEqual(called, [])
            self.check_same(desk, before)

    def test_by_name_and_twins_that_stay(self):
        desk = self.desk()
        twin = desk.suppose(deed=Desk.twin)
        self.assertEqual(state(twin), (*state(desk)[:3], 0))
        twin = desk.suppose(lambda given: given.twin(), OnDay("fire", 1, 1))
        self.assertEqual(twin.size, desk.size + 1)


class GreatestFrameTest(Case):
    def test_in_short_time(self):
        begun = process_time()
        desk = Desk(GREAT)
        desk.limit = 20
        for paper in GREAT_PAPERS:
            desk.enter(paper)
        error = self.caught(Contradiction, lambda: desk.enter(*CROWDED))
        self.assertEqual(error.numbers, ())
        self.assertTrue(judge_refutation(GREAT, [*GREAT_PAPERS, *CROWDED], error.refutation))
        for claim in (Together("ann", "ben"), Began("ann"), Heard("ann", "eventb"), Present("dot", "eventh")):
            desk.ask(claim)
        self.assertEqual([word for _, word in desk.asked()], ["sure", "open", "sure", "sure"])
        self.assertEqual(desk.reopened(5, 9), [2, 3])
        self.assertEqual(desk.suppose(lambda given: given.word_on(Began("ann")), Began("dot")), "never")
        self.assertGreater(len(desk.news()), 10)
        self.assertTrue(issubclass(Contradiction, ArchiveError))
        self.assertLess(process_time() - begun, 15)


if __name__ == "__main__":
    unittest.main()
