"""How facts of one part became facts of another, and trails without what they do not need."""

from fittingpasts.closing import check_given, rows_given
from fittingpasts.knots import tied_scope
from fittingpasts.reading import check_papers
from fittingpasts.variables import part_name
from fittingpasts.webs import Web
from fittingpasts.words import as_tuples


def bridges(frame, papers, strikes):
    """Return the list of the pairs of two parts between which the strikes of a trail lead, ascending."""
    check_papers(frame, papers)
    steps = {(variable, label): True for variable, _, label in as_tuples(strikes)}
    pairs = {
        (part_name(other), part_name(variable)): True
        for variable, label in steps
        for other in tied_scope(frame, papers, label)
        if part_name(other) != part_name(variable)
    }
    return sorted(list(pairs))


def _is_needed(later, met, place, bit):
    """Return True if a later strike would not be right if the lot still had the value of the bit.

    The later strikes are told by their knots, the indexes of their variables and their bits;
    `met` has the rows that each of them meets.
    """
    for (knot, struck, gone), rows in zip(later, met):
        if place in knot.places and place != struck:
            with_value = list(rows)
            with_value[place] = bit
            if knot.supports(with_value, struck, gone):
                return True
    return False


def lean_trail(frame, papers, strikes, lot=None):
    """Return a right trail of some of the strikes, with the last one, from which no other can be left out."""
    check_given(frame, papers, lot)
    web = Web(frame, papers)
    given = as_tuples(strikes)
    rows = web.struck(rows_given(web, lot), given)
    kept = []
    later = []
    met = []
    for variable, value, label in given[::-1]:
        place = web.grid.places[variable]
        bit = web.grid.bit_of(place, value)
        rows[place] = rows[place] | bit
        if not kept or _is_needed(later, met, place, bit):
            kept.append((variable, value, label))
            later.append((web.knots[web.labels.index(label)], place, bit))
            met.append(list(rows))
        else:
            # What is left out is not struck for the later strikes either.
            for at in range(len(met)):
                met[at][place] = met[at][place] | bit
    return tuple(kept[::-1])
