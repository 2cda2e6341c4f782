"""Seeking: whether some past in the rows fits, found with the variables taken in the order that promises most."""

from fittingpasts.grids import bits_of, has_many, size_of

FIRST_FAILURES = 64
# So that sizes by weights are told apart without fractions.
FINENESS = 1000000


def _grouped(groups, reach):
    """Return the groups of variables with those of one more tie joined."""
    apart = [group for group in groups if group & reach == 0]
    together = reach
    for group in groups:
        if group & reach != 0:
            together = together | group
    return [*apart, together]


def joined(reaches):
    """Return the list of the groups of variables that ties join; a tie is told by the variables that are open in it.

    Several variables are an integer: the bit at an index tells whether the variable at this index is meant.
    """
    groups = []
    for reach in reaches:
        groups = _grouped(groups, reach)
    return groups


def are_spread(reaches):
    """Return True if no way leads from a variable over different ties back to it.

    If it is so, and the rows are closed, then every value in them is a value of some past that fits.
    """
    groups = []
    for reach in reaches:
        if any([has_many(group & reach) for group in groups]):
            return False
        groups = _grouped(groups, reach)
    return True


class Seeker:
    """Looks for pasts in the rows of a web. It learns which ties fail often, and begins with their variables."""

    def __init__(self, web):
        self._web = web
        self._weights = {}
        self._failures = 0
        self._culprit = 0
        self._last = None

    def binding(self, rows, active):
        """Return a dict of the active knots that do not hold for all choices of closed rows.

        The keys are the indexes of the knots, the values have the bits of the variables that are open in them.
        """
        open_places = sum([1 << place for place, row in enumerate(rows) if has_many(row)])
        found = {}
        for bit in bits_of(active):
            at = bit.bit_length() - 1
            knot = self._web.knots[at]
            reach = knot.reach & open_places
            # With one open variable alone each of its values is supported by what the others have: it may be any.
            if has_many(reach) and not knot.is_loose(rows):
                found[at] = reach
        return found

    def branch(self, rows, binding):
        """Return the index of the variable to try next: one with few values in ties that failed often."""
        weights = {}
        for at, reach in binding.items():
            weight = self._weights.get(at, 1)
            for bit in bits_of(reach):
                weights[bit] = weights.get(bit, 0) + weight
        costs = [
            (size_of(rows[bit.bit_length() - 1]) * FINENESS // weight, bit.bit_length() - 1)
            for bit, weight in weights.items()
        ]
        return min(costs)[1]

    def note_failure(self, cuts):
        """Remember by which knots a row got empty: the one that emptied it, and those whose cuts led there."""
        knots = self._web.knots
        reach = knots[cuts[-1][0]].reach
        noted = 0
        for at, place, _ in cuts[::-1]:
            if reach & (1 << place) != 0 and noted & (1 << at) == 0:
                noted = noted | (1 << at)
                reach = reach | knots[at].reach
                self._weights[at] = self._weights.get(at, 1) + 1

    def free_part(self, rows, active, wanted=None):
        """Return rows, a part of closed ones, in which every value is one of a past that fits; None if there are none.

        Where `wanted` has rows, their values are tried first.
        """
        most = FIRST_FAILURES
        while True:
            self._failures = most
            found = self._part_below(rows, active, wanted)
            if found is not None:
                self._last = found
            if found is not None or self._failures > 0:
                return found
            # The first choices were bad ones: begin again, with what was learned.
            most = most * 2
            wanted = None

    def some_fit(self, rows, active):
        """Return True if some past in the rows fits the active knots."""
        closed = self._web.closed(rows, active)
        return 0 not in closed and self.free_part(closed, active) is not None

    def fails_at(self, rows, place, active):
        """Return True if every value of a variable empties a row of closed rows."""
        for bit in bits_of(rows[place]):
            less, cuts = self._web.chosen(rows, place, bit, active)
            if 0 not in less:
                return False
            self.note_failure(cuts)
        return True

    def _part_below(self, rows, active, wanted):
        """Return a free part of closed rows, or None if there is none or too many choices failed."""
        binding = self.binding(rows, active)
        if are_spread(list(binding.values())):
            return rows
        place = self.branch(rows, binding)
        bound = sum([1 << at for at in binding])
        asked = [place]
        for bit in self._choices(rows[place], place, wanted):
            less, cuts = self._web.chosen(rows, place, bit, bound)
            if 0 in less:
                self.note_failure(cuts)
                self._failures -= 1
            else:
                found = self._part_below(less, bound, wanted)
                if found is not None:
                    return found
                # Where the same variable fails here already, the choice that was made had nothing to do with it.
                if self._failures > 0 and self._culprit not in asked:
                    asked.append(self._culprit)
                    if self.fails_at(rows, self._culprit, bound):
                        return None
            if self._failures <= 0:
                return None
        self._culprit = place
        return None

    def _choices(self, row, place, wanted):
        """Return the list of the values of a row, each as its bit, in the order in which they are tried."""
        first = 0 if wanted is None else row & wanted[place]
        second = 0 if self._last is None else (row - first) & self._last[place]
        return [*bits_of(first), *bits_of(second), *bits_of(row - first - second)]
