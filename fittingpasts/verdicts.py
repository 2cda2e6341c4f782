"""Verdicts: whether a claim is true in all pasts that fit, in none of them, or in some."""

from fittingpasts.deciding import Decider
from fittingpasts.reading import check_papers, check_statement
from fittingpasts.refuting import judge_refutation
from fittingpasts.ties import fits

# What each word asks: whether the claim is true in each of the witnesses, in order.
TRUTHS_BY_WORD = {"void": (), "sure": (True,), "never": (False,), "open": (True, False)}


class Verdict:
    """A word about a claim, the pasts that witness it, and the refutations that show it."""

    def __init__(self, word, witnesses, refutations):
        self.word = word
        self.witnesses = tuple(witnesses)
        self.refutations = tuple(refutations)


def _check(frame, papers, claim):
    """Raise an error if the papers or the claim do not suit the frame."""
    check_papers(frame, papers)
    check_statement(frame, claim)


def verdict(frame, papers, claim):
    """Return the verdict on the claim over all pasts that fit the papers."""
    _check(frame, papers, claim)
    decider = Decider(frame, papers)
    true = decider.first_fitting(claim)
    false = decider.first_fitting(~claim)
    if true is None and false is None:
        return Verdict("void", (), (decider.refuting(),))
    if false is None:
        return Verdict("sure", (true,), (decider.refuting(~claim),))
    if true is None:
        return Verdict("never", (false,), (decider.refuting(claim),))
    return Verdict("open", (true, false), ())


def _refuted_papers(papers, claim, word):
    """Return the list of the lists of papers that the refutations of a verdict with this word refute."""
    if word == "void":
        return [papers]
    if word == "open":
        return []
    return [[*papers, ~claim if word == "sure" else claim]]


def judge_verdict(frame, papers, claim, verdict):
    """Return True if the verdict has a right word, right witnesses and right refutations."""
    _check(frame, papers, claim)
    if verdict.word not in TRUTHS_BY_WORD:
        return False
    truths = TRUTHS_BY_WORD[verdict.word]
    refuted = _refuted_papers(papers, claim, verdict.word)
    if len(verdict.witnesses) != len(truths) or len(verdict.refutations) != len(refuted):
        return False
    for past, truth in zip(verdict.witnesses, truths):
        if past.frame != frame or not fits(frame, papers, past) or claim.holds(past) != truth:
            return False
    return all([judge_refutation(frame, given, shown) for given, shown in zip(refuted, verdict.refutations)])


def survey(frame, papers, *claims):
    """Yield the pair of the index and the word for each claim in order."""
    check_papers(frame, papers)
    decider = Decider(frame, papers)
    for at, claim in enumerate(claims):
        check_statement(frame, claim)
        word = decider.word_on(claim)
        yield (at, word)
