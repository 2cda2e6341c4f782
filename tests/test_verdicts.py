import unittest
from time import process_time

from fittingpasts.errors import EmptyClause, OutOfRange, UnknownName
from fittingpasts.frames import Frame
from fittingpasts.past import Past
from fittingpasts.refuting import Refutation, judge_refutation, refute
from fittingpasts.search import first_past
from fittingpasts.statements import (
    Apart, Astray, Began, Clause, Dated, Filed, Heard, Long, OnDay, Piled, Present, Rises, Together, Told,
)
from fittingpasts.variables import values_of, variables
from fittingpasts.verdicts import Verdict, judge_verdict, survey, verdict
from tests.helpers import Case, Numbers
from tests.papers import ALIKE, GREAT, GREAT_PAPERS, some_statement
from tests.test_closing import ROW, ROW_PAPERS
from tests.test_search import FITTING

WEEKS = Frame(("fire", "feast"), cycles=[("week", 2, 3)], last=4)
WEEK_PAPERS = [Apart("fire", "feast", 2, 3), Dated("fire", "week", 0), Dated("feast", "week", 0)]


def asked(seed):
    """Frames with papers, their fitting pasts, and a claim."""
    numbers = Numbers(seed)
    return [
        (frame, papers, right, some_statement(numbers, frame))
        for frame, papers, right in FITTING for _ in range(2)
    ]


def word_by_all(right, claim):
    truths = [claim.holds(past) for past in right]
    if not truths:
        return "void"
    return "sure" if all(truths) else "open" if any(truths) else "never"


class VerdictTest(Case):
    def test_the_four_words_against_all_pasts(self):
        seen = set()
        for frame, papers, right, claim in asked(1):
            found = verdict(frame, papers, claim)
            word = word_by_all(right, claim)
            true = [past for past in right if claim.holds(past)][:1]
            false = [past for past in right if not claim.holds(past)][:1]
            more = {"void": [], "sure": [~claim], "never": [claim]}
            self.assertEqual(found.word, word)
            self.assertEqual(found.witnesses, tuple(true + false))
            self.assertEqual(len(found.refutations), 0 if word == "open" else 1)
            for refutation in found.refutations:
                self.assertTrue(judge_refutation(frame, [*papers, *more[word]], refutation))
            self.assertIs(judge_verdict(frame, papers, claim, found), True)
            seen.add(word)
        self.assertEqual(seen, {"void", "sure", "never", "open"})

    def test_attributes_are_tuples(self):
        found = verdict(frame=WEEKS, papers=tuple(WEEK_PAPERS), claim=Apart("fire", "feast", 3))
        self.assertEqual(found.word, "open")
        self.assertIs(type(found.witnesses), tuple)
        witnesses, refutations = list(found.witnesses), [Refutation((), None, ())]
        made = Verdict(word="open", witnesses=witnesses, refutations=refutations)
        witnesses.clear()
        self.assertEqual(made.witnesses, found.witnesses)
        self.assertEqual(made.refutations, tuple(refutations))

    def test_the_claims_are_statements_also_without_their_classes(self):
        plain = ~~Apart("fire", "feast", 2)
        self.assertEqual(verdict(WEEKS, WEEK_PAPERS, plain).word, "sure")
        self.assertEqual(verdict(WEEKS, WEEK_PAPERS, ~plain).word, "never")

    def test_errors_in_their_order(self):
        bad = Dated("fire", "week", 3)
        for call in (
            lambda papers, claim: verdict(WEEKS, papers, claim),
            lambda papers, claim: judge_verdict(WEEKS, papers, claim, Verdict("what", (), ())),
            lambda papers, claim: list(survey(WEEKS, papers, claim)),
        ):
            self.assert_fails(EmptyClause(), lambda: call([Clause(), Began("ann")], bad))
            self.assert_fails(UnknownName("ann"), lambda: call([*WEEK_PAPERS, Began("ann")], bad))
            self.assert_fails(OutOfRange(3), lambda: call(WEEK_PAPERS, bad))
            self.assert_fails(UnknownName("ann"), lambda: call(WEEK_PAPERS, Began("ann")))


class JudgeTest(Case):
    def test_witnesses_that_are_not_the_least(self):
        claim = Apart("fire", "feast", 2, 2)
        right = [past for past in (first_past(ROW, [*ROW_PAPERS, OnDay("fire", 0, 0), OnDay("fall", day, day)])
                                   for day in (4, 5)) if past]
        past = Past(ROW, [0, 2, 5])
        found = verdict(ROW, ROW_PAPERS, claim)
        self.assertEqual(found.word, "open")
        self.assertNotIn(past, found.witnesses)
        self.assertTrue(judge_verdict(ROW, ROW_PAPERS, claim, Verdict("open", [past, found.witnesses[1]], ())))
        sure = verdict(ROW, ROW_PAPERS, Apart("fire", "fall", 4))
        for other in right:
            self.assertTrue(
                judge_verdict(ROW, ROW_PAPERS, Apart("fire", "fall", 4), Verdict("sure", [other], sure.refutations))
            )

    def test_spoilt_ones(self):
        spoilt = 0
        for frame, papers, right, claim in asked(9):
            found = verdict(frame, papers, claim)
            word, witnesses, refutations = found.word, found.witnesses, found.refutations
            rows = [values_of(frame, variable) for variable in variables(frame)]
            some = [Past(frame, [row[at] for row in rows]) for at in (0, -1)]
            unfit = [past for past in some if past not in right]
            nothing = Refutation((), None, ())
            wrong = [
                *[(other, witnesses, refutations) for other in ("void", "sure", "never", "open", "", "what")
                  if other != word],
                (word, (*witnesses, some[0]), refutations), (word, (*right[:1], *witnesses), (*refutations, nothing)),
                *[(word, (*witnesses, past), refutations) for past in right[:2]],
                *[(word, witnesses[:-1], refutations) for _ in witnesses],
                *[(word, witnesses, refutations[:-1]) for _ in refutations],
                *[(word, (past, *witnesses[1:]), refutations) for past in unfit if witnesses],
                *[(word, witnesses[::-1], refutations) for _ in witnesses[1:]],
                *[(word, witnesses, (nothing,)) for _ in refutations],
            ]
            for parts in wrong:
                self.assertIs(judge_verdict(frame, papers, claim, Verdict(*parts)), False, (word, parts[0]))
                spoilt += 1
        self.assertGreater(spoilt, 1000)

    def test_witnesses_for_which_the_claim_is_as_it_should_not_be(self):
        for frame, papers, right, claim in asked(4)[:120]:
            found = verdict(frame, papers, claim)
            if found.word in ("sure", "never"):
                turned = Verdict("never" if found.word == "sure" else "sure", found.witnesses, found.refutations)
                self.assertFalse(judge_verdict(frame, papers, claim, turned))
                self.assertTrue(judge_verdict(frame, papers, ~claim, turned))

    def test_witnesses_of_another_frame(self):
        claim = Apart("fire", "feast", 2)
        found = verdict(ROW, ROW_PAPERS, claim)
        self.assertEqual(found.word, "sure")
        other = Frame(ROW.events, last=6)
        past = Past(other, found.witnesses[0].assigned)
        self.assertFalse(judge_verdict(ROW, ROW_PAPERS, claim, Verdict("sure", [past], found.refutations)))
        self.assertTrue(judge_verdict(
            frame=ROW, papers=ROW_PAPERS, claim=claim, verdict=Verdict("sure", found.witnesses, found.refutations)))

    def test_a_refutation_of_other_papers(self):
        claim = Apart("fire", "feast", 2)
        found = verdict(ROW, ROW_PAPERS, claim)
        for papers in ([*ROW_PAPERS, OnDay("fire", 9, 9)], [~claim, *ROW_PAPERS], [claim, ~claim]):
            spoilt = Verdict("sure", found.witnesses, [refute(ROW, papers)])
            right = judge_refutation(ROW, [*ROW_PAPERS, ~claim], spoilt.refutations[0])
            self.assertIs(judge_verdict(ROW, ROW_PAPERS, claim, spoilt), right)
        spoilt = Verdict("sure", found.witnesses, [refute(ROW, [*ROW_PAPERS, OnDay("fire", 9, 9)])])
        self.assertFalse(judge_verdict(ROW, ROW_PAPERS, claim, spoilt))


class SurveyTest(Case):
    def test_example_of_the_interface(self):
        found = list(survey(
            WEEKS, WEEK_PAPERS, Apart("fire", "feast", 2), Apart("fire", "feast", 3), Apart("feast", "fire", 0)
        ))
        self.assertEqual(found, [(0, "sure"), (1, "open"), (2, "never")])

    def test_against_all_pasts(self):
        numbers = Numbers(12)
        for frame, papers, right in FITTING:
            claims = [some_statement(numbers, frame) for _ in range(numbers.below(9))]
            found = list(survey(frame, papers, *claims))
            self.assertEqual(found, [(at, word_by_all(right, claim)) for at, claim in enumerate(claims)])

    def test_when_papers_and_claims_are_checked(self):
        iterated = survey(WEEKS, [Clause()], Began("ann"))
        self.assert_fails(EmptyClause(), lambda: next(iterated))
        iterated = survey(WEEKS, WEEK_PAPERS, Apart("fire", "feast", 2), Began("ann"), Long("week", 2, 2))
        self.assertEqual(next(iterated), (0, "sure"))
        self.assert_fails(UnknownName("ann"), lambda: next(iterated))
        self.assertEqual(list(survey(WEEKS, WEEK_PAPERS)), [])
        self.assert_fails(EmptyClause(), lambda: list(survey(WEEKS, [Clause()])))


class GreatestFrameTest(Case):
    CLAIMS = [
        (Together("ann", "ben"), "sure"), (~Together("cid", "dot"), "never"), (Present("dot", "eventh"), "sure"),
        (Present("ann", "eventa"), "sure"), (Heard("ann", "eventb"), "sure"), (Apart("eventa", "eventh", 1), "sure"),
        (Rises("attic", "age"), "sure"), (Filed("attic", "rolla", "rollb"), "open"), (Astray("desk"), "open"),
        (Began("cid"), "never"), (Began("ann"), "open"), (Told("ann", "cid"), "sure"), (Heard("cid", "cid-"), "sure"),
        (Long("week", 8, 9), "never"), (Piled("rolla", "rollh"), "sure"), (Dated("eventa", "month", 11), "open"),
    ]

    def test_in_short_time(self):
        begun = process_time()
        words = dict(survey(GREAT, GREAT_PAPERS, *[claim for claim, _ in self.CLAIMS]))
        for at, (claim, word) in enumerate(self.CLAIMS):
            found = verdict(GREAT, GREAT_PAPERS, claim)
            self.assertEqual([found.word, words[at]], [word, word], str(claim))
            self.assertTrue(judge_verdict(GREAT, GREAT_PAPERS, claim, found))
        self.assertLess(process_time() - begun, 15)

    def test_shelves_of_rolls_that_are_alike(self):
        begun = process_time()
        for papers, roll, word in (
            ([~Astray("attic")], "rollc", "never"), ([~Astray("attic")], "rolla", "open"), ([], "rollc", "open"),
            ([Apart("evente", "eventa", 1), ~Astray("attic"), ~Astray("desk", "rollb")], "rollb", "never"),
        ):
            found = verdict(ALIKE, papers, Astray("desk", roll))
            self.assertEqual(found.word, word)
            self.assertTrue(judge_verdict(ALIKE, papers, Astray("desk", roll), found))
        self.assertLess(process_time() - begun, 12)


if __name__ == "__main__":
    unittest.main()
