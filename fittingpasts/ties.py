"""The ties of a frame and papers: what they say together, and which values they support."""

from fittingpasts.errors import UnknownTie, UnknownVariable, UnlikeFrames
from fittingpasts.grids import Grid
from fittingpasts.house import house_ties
from fittingpasts.knots import knot_of, tied_scope
from fittingpasts.reading import check_papers


def tie_labels(frame, papers):
    """Return the list of the labels of all ties; the papers suit the frame."""
    return [*house_ties(frame), *[("paper", at) for at in range(len(papers))]]


def all_ties(frame, papers):
    """Return the list of the labels of the house ties, and then of those of the papers."""
    check_papers(frame, papers)
    return tie_labels(frame, papers)


def scope_of(frame, papers, label):
    """Return the scope of the tie."""
    check_papers(frame, papers)
    if label not in tie_labels(frame, papers):
        raise UnknownTie(label)
    return tied_scope(frame, papers, label)


def fits(frame, papers, past):
    """Return True if all ties hold in the past."""
    check_papers(frame, papers)
    if past.frame != frame:
        raise UnlikeFrames()
    return past.is_whole() and all([paper.holds(past) for paper in papers])


def is_supported(frame, papers, lot, label, variable, value):
    """Return True if the tie supports the value of the variable in the lot."""
    check_papers(frame, papers)
    if lot.frame != frame:
        raise UnlikeFrames()
    scope = scope_of(frame, papers, label)
    if variable not in scope:
        raise UnknownVariable(variable)
    if value not in lot[variable]:
        return False
    grid = Grid(frame)
    rows = grid.rows_of(lot.rows)
    place = grid.places[variable]
    return knot_of(grid, papers, label).supports(rows, place, grid.bit_of(place, value))
