"""Deciding: whether fitting pasts make statements true, with what was found kept for the next question."""

from fittingpasts.errors import NoPast
from fittingpasts.refuting import refutation_from
from fittingpasts.search import least_past, past_of_rows
from fittingpasts.seeking import Seeker, narrowed
from fittingpasts.webs import Web


class Decider:
    """Finds pasts that fit papers, and that fit one more paper; the papers suit the frame."""

    def __init__(self, frame, papers):
        web = Web(frame, papers)
        self._many = len(papers)
        self._web = web
        self._seeker = Seeker(web)
        self._rows = web.closed(web.grid.wholes, web.all_knots)
        self._known = []

    def _active_with(self, more):
        """Return the knots of the papers and of the papers of `more`, which are none or one."""
        active = self._web.all_knots
        for paper in more:
            active = active | self._web.added(("paper", self._many), paper)
        return active

    def fitting(self, *more):
        """Return some past that fits the papers and the one that is passed, if one is, or None."""
        for past in self._known:
            if all([paper.holds(past) for paper in more]):
                return past
        active = self._active_with(more)
        rows = self._web.closed(self._rows, active)
        part = None if 0 in rows else self._seeker.free_part(rows, active)
        if part is None:
            return None
        self._known.append(past_of_rows(self._web, narrowed(self._web, part, rows)))
        return self._known[-1]

    def first_fitting(self, *more):
        """Return the least past that fits the papers and the one that is passed, if one is, or None."""
        return least_past(self._web, self._seeker, self._rows, self._active_with(more))

    def refuting(self, *more):
        """Return a refutation for the papers and the one that is passed, if one is; no past fits them."""
        return refutation_from(self._web, self._seeker, self._web.grid.wholes, self._active_with(more))

    def check_fitting(self):
        """Raise an error if no past fits the papers."""
        if self.fitting() is None:
            raise NoPast(self.refuting())

    def is_sure(self, claim):
        """Return True if all fitting pasts make the claim true."""
        return self.fitting(~claim) is None

    def word_on(self, claim):
        """Return the word that says whether fitting pasts make the claim true."""
        if self.fitting() is None:
            return "void"
        if self.is_sure(claim):
            return "sure"
        return "never" if self.is_sure(~claim) else "open"
