"""Closing: striking what some tie does not support, until nothing is left to strike."""

from fittingpasts.errors import UnknownTie, UnlikeFrames
from fittingpasts.lots import Lot
from fittingpasts.reading import check_papers
from fittingpasts.ties import tie_labels
from fittingpasts.webs import Web
from fittingpasts.words import as_tuples


def check_given(frame, papers, lot):
    """Raise an error for papers that do not suit the frame, or for a lot of another frame."""
    check_papers(frame, papers)
    if lot is not None and lot.frame != frame:
        raise UnlikeFrames()


def rows_given(web, lot):
    """Return the rows of the lot as integers; None stands for the full lot."""
    return web.grid.wholes if lot is None else web.grid.rows_of(lot.rows)


def lot_of_rows(web, rows):
    """Return the lot with these rows."""
    return Lot(web.grid.frame, [web.grid.values_in(place, row) for place, row in enumerate(rows)])


def _struck_in_order(web, rows, order):
    """Return the rows that are left and the cuts, where the knots of the labels are asked first, in their order."""
    if 0 in rows:
        return rows, []
    knots = [1 << web.labels.index(label) for label in order]
    cuts = []
    for waiting, active in [*[(knot, knot) for knot in knots], (web.all_knots, web.all_knots)]:
        rows, more = web.settled(rows, waiting, active)
        cuts.extend(more)
        if 0 in rows:
            break
    return rows, cuts


def _struck(frame, papers, lot, order):
    """Return the web of the papers, the rows that are left of the lot, and the cuts."""
    check_given(frame, papers, lot)
    labels = tie_labels(frame, papers)
    for label in order:
        if label not in labels:
            raise UnknownTie(label)
    web = Web(frame, papers)
    rows, cuts = _struck_in_order(web, rows_given(web, lot), order)
    return web, rows, cuts


def close(frame, papers=(), lot=None, *, order=()):
    """Return the greatest closed part of the lot."""
    web, rows, _ = _struck(frame, papers, lot, order)
    return lot_of_rows(web, [0 for _ in rows] if 0 in rows else rows)


def trail(frame, papers=(), lot=None, *, order=()):
    """Return a full trail from the lot that is right."""
    web, _, cuts = _struck(frame, papers, lot, order)
    return tuple(web.strikes_of(cuts))


def judge_trail(frame, papers, strikes, lot=None):
    """Return the lot to which the trail leads if it is right from the lot, otherwise None."""
    check_given(frame, papers, lot)
    web = Web(frame, papers)
    rows = web.struck(rows_given(web, lot), as_tuples(strikes))
    return None if rows is None else lot_of_rows(web, rows)
