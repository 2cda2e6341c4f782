"""Refutations: trees of cases that show that no past in a lot fits the papers."""

from fittingpasts.closing import check_given, rows_given
from fittingpasts.grids import bits_of
from fittingpasts.seeking import Seeker
from fittingpasts.webs import Web
from fittingpasts.words import as_tuples


class Refutation:
    """The certificate that no past fits: strikes, and then a case for each value that is left of a variable."""

    def __init__(self, strikes, variable, children):
        self.strikes = as_tuples(strikes)
        self.variable = as_tuples(variable)
        self.children = as_tuples(children)

    def depth(self):
        """Return how many variables are looked into below each other at most."""
        deep = 0
        level = _below([self])
        while level:
            deep += 1
            level = _below(level)
        return deep

    def steps(self):
        """Return the number of all strikes in the refutation and in everything below it."""
        many = 0
        level = [self]
        while level:
            many += sum([len(refutation.strikes) for refutation in level])
            level = _below(level)
        return many


def _below(refutations):
    """Return the list of the children of the refutations."""
    return [child for refutation in refutations for _, child in refutation.children]


def _made(strikes, variable, children):
    """Return the refutation with these tuples, which nobody else has: so they are not copied."""
    made = Refutation((), None, ())
    made.strikes = strikes
    made.variable = variable
    made.children = children
    return made


def _value_of(web, place, bit):
    """Return the value of the variable at an index that the bit means."""
    return web.grid.values_in(place, bit)[0]


def _with_strikes(web, cuts, inner, variables):
    """Return the refutation with the strikes of cuts ahead of it, and the variables on which it depends then.

    `variables` has those on which it depends without them. The strikes that it does not need are left out.
    """
    kept, needed = web.needed(cuts, variables)
    return _made((*web.strikes_of(kept), *inner.strikes), inner.variable, inner.children), needed


def _emptied(web, cuts):
    """Return the refutation that consists of cuts of which the last one empties a row, and what it depends on."""
    return _with_strikes(web, cuts, _made((), None, ()), 1 << cuts[-1][1])


def _failing_cases(web, rows, place, active):
    """Return the refutation of rows in which each value of a variable empties a row, and what it depends on."""
    children = []
    needed = 1 << place
    for bit in bits_of(rows[place]):
        _, cuts = web.chosen(rows, place, bit, active)
        child, more = _emptied(web, cuts)
        needed = needed | more
        children.append((_value_of(web, place, bit), child))
    return _made((), web.grid.names[place], tuple(children)), needed


def _cases(web, seeker, rows, active):
    """Return a refutation without strikes of closed rows in which nothing fits, and what it depends on."""
    binding = seeker.binding(rows, active)
    bound = sum([1 << at for at in binding])
    place = seeker.branch(rows, binding)
    needed = 1 << place
    asked = [place]
    children = []
    for bit in bits_of(rows[place]):
        less, cuts = web.chosen(rows, place, bit, bound)
        child, more = _tree(web, seeker, less, cuts, bound)
        # Where the failure has nothing to do with the value, it shows that the other values fail as well.
        if more & (1 << place) == 0:
            return child, more
        needed = needed | more
        children.append((_value_of(web, place, bit), child))
        culprit = place if child.variable is None else web.grid.places[child.variable]
        if culprit not in asked:
            asked.append(culprit)
            if seeker.fails_at(culprit, rows, bound):
                return _failing_cases(web, rows, culprit, bound)
    return _made((), web.grid.names[place], tuple(children)), needed


def _tree(web, seeker, rows, cuts, active):
    """Return the refutation that begins with cuts that lead to these rows, and what it depends on.

    Nothing in the rows fits.
    """
    if 0 in rows:
        seeker.learn_from(cuts)
        return _emptied(web, cuts)
    inner, needed = _cases(web, seeker, rows, active)
    return _with_strikes(web, cuts, inner, needed)


def refutation_from(web, seeker, rows, active):
    """Return a refutation from the rows for the active knots; no past in the rows fits these."""
    if 0 in rows:
        return Refutation((), None, ())
    left, cuts = web.settled(rows, active, active)
    found, _ = _tree(web, seeker, left, cuts, active)
    return found


def refute(frame, papers=(), lot=None):
    """Return a right refutation, or None if some past in the lot fits the papers."""
    check_given(frame, papers, lot)
    web = Web(frame, papers)
    seeker = Seeker(web)
    rows = rows_given(web, lot)
    return None if seeker.some_fit(rows, web.all_knots) else refutation_from(web, seeker, rows, web.all_knots)


def _cases_of(web, rows, refutation):
    """Return the list of the rows and the refutations of the cases that are still to be judged.

    It is None if what the refutation itself says is not right.
    """
    left = web.struck(rows, refutation.strikes)
    if left is None:
        return None
    if refutation.variable is None:
        return [] if 0 in left and not refutation.children else None
    if refutation.variable not in web.grid.names:
        return None
    place = web.grid.places[refutation.variable]
    bits = bits_of(left[place])
    if [value for value, _ in refutation.children] != [_value_of(web, place, bit) for bit in bits]:
        return None
    children = [child for _, child in refutation.children]
    return [([*left[:place], bit, *left[place + 1:]], child) for bit, child in zip(bits, children)]


def is_refutation(web, rows, refutation):
    """Return True if the refutation is right from the rows."""
    waiting = [(rows, refutation)]
    while waiting:
        left, case = waiting.pop()
        cases = _cases_of(web, left, case)
        if cases is None:
            return False
        waiting.extend(cases)
    return True


def judge_refutation(frame, papers, refutation, lot=None):
    """Return True if the refutation is right from the lot."""
    check_given(frame, papers, lot)
    web = Web(frame, papers)
    return is_refutation(web, rows_given(web, lot), refutation)
