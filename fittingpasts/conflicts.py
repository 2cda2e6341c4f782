"""Conflicts: which papers contradict each other, how few must be dropped, and what is best asked next."""

from itertools import combinations

from fittingpasts.covering import covered_rows
from fittingpasts.errors import NoPast, NoQuestion
from fittingpasts.grids import size_of
from fittingpasts.reading import check_papers, check_statement
from fittingpasts.refuting import refutation_from
from fittingpasts.search import least_past
from fittingpasts.seeking import Seeker
from fittingpasts.webs import Web


def conflict(frame, papers):
    """Return the list of the indexes of papers that contradict each other, or None if some past fits all papers."""
    check_papers(frame, papers)
    web = Web(frame, papers)
    seeker = Seeker(web)
    active = web.all_knots
    if seeker.some_fit(web.grid.wholes, active):
        return None
    kept = []
    for at in range(len(papers)):
        less = active & ~web.paper_knot(at)
        if seeker.some_fit(web.grid.wholes, less):
            kept.append(at)
        else:
            active = less
    return kept


def least_dropped(frame, papers):
    """Return the tuple of as few indexes of papers as have to be dropped, and the least past that fits the others."""
    check_papers(frame, papers)
    web = Web(frame, papers)
    seeker = Seeker(web)
    rows = web.grid.wholes
    for many in range(len(papers) + 1):
        for dropped in combinations(range(len(papers)), many):
            active = web.all_knots & ~sum([web.paper_knot(at) for at in dropped])
            if seeker.some_fit(rows, active):
                return dropped, least_past(web, seeker, rows, active)
    house = web.all_knots & ~sum([web.paper_knot(at) for at in range(len(papers))])
    raise NoPast(refutation_from(web, seeker, rows, house))


def best_question(frame, papers, *claims):
    """Return the index of the claim whose answer, whatever it is, leaves the fewest values, and these two numbers."""
    check_papers(frame, papers)
    for claim in claims:
        check_statement(frame, claim)
    if len(claims) == 0:
        raise NoQuestion()
    web = Web(frame, papers)
    seeker = Seeker(web)
    rows, parts = covered_rows(web, seeker, web.grid.wholes, web.all_knots)
    asked = []
    for at, claim in enumerate(claims):
        sizes = []
        for answer in (claim, ~claim):
            more = web.added(("paper", len(papers)), answer)
            left, _ = covered_rows(web, seeker, rows, web.all_knots | more, more, parts)
            sizes.append(sum([size_of(row) for row in left]))
        asked.append((max(sizes), sum(sizes), at, sizes[0], sizes[1]))
    _, _, best, yes, no = min(asked)
    return best, yes, no
