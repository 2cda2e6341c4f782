"""Webs: all ties of a frame and papers, and the striking of values that some of them do not support."""

from fittingpasts.grids import Grid
from fittingpasts.knots import knot_of, knot_of_case, knot_of_paper
from fittingpasts.ties import tie_labels


def _cost_of(knot):
    """Return a key that puts the knots that cost most ahead."""
    return (-len(knot.places), -knot.many)


class Web:
    """The knots of all ties of a frame and papers.

    Several knots are an integer: the bit at an index tells whether the knot at this index is meant.
    So are several variables. Rows are a list with an integer for each variable.
    """

    def __init__(self, frame, papers):
        grid = Grid(frame)
        knots = [knot_of(grid, papers, label) for label in tie_labels(frame, papers)]
        self.grid = grid
        self.knots = sorted(knots, key=_cost_of)
        self.labels = [knot.label for knot in self.knots]
        self.all_knots = (1 << len(knots)) - 1
        # From the index of a knot and that of one of its cases to the knot of this case, and back to the first index.
        self._case_knots = {}
        self.whole_of = {}
        self._touching = [
            sum([1 << at for at, knot in enumerate(self.knots) if place in knot.places])
            for place in range(len(grid.names))
        ]

    def _with_knot(self, knot):
        """Add a knot, which is not one of `all_knots`, and return its index."""
        at = len(self.knots)
        self.knots.append(knot)
        self.labels.append(knot.label)
        for place in knot.places:
            self._touching[place] = self._touching[place] | (1 << at)
        return at

    def added(self, label, paper):
        """Add the knot of one more paper, and return it."""
        return 1 << self._with_knot(knot_of_paper(self.grid, label, paper))

    def paper_knot(self, at):
        """Return the knot of the paper at an index."""
        return 1 << self.labels.index(("paper", at))

    def case_knot(self, at, case):
        """Return the knot of one case of the knot at an index."""
        if (at, case) not in self._case_knots:
            single = self._with_knot(knot_of_case(self.grid, self.knots[at], case))
            self._case_knots[at, case] = 1 << single
            self.whole_of[single] = at
        return self._case_knots[at, case]

    def settled(self, rows, waiting, active):
        """Strike what the active knots do not support, beginning with the waiting ones, until a row is empty.

        Return the rows that are left, and the list of the cuts: triples of the index of a knot,
        the index of a variable, and the row of the values that are struck.
        """
        left = list(rows)
        cuts = []
        while waiting != 0:
            # The last knots cost least.
            index = waiting.bit_length() - 1
            knot = self.knots[index]
            for place, row in zip(knot.places, knot.supported(left)):
                if row != left[place]:
                    cuts.append((index, place, left[place] - row))
                    left[place] = row
                    waiting = waiting | (self._touching[place] & active)
                if row == 0:
                    return left, cuts
            # What is struck now was of no use to the other values: the knot has nothing more to strike.
            waiting = waiting & ~(1 << index)
        return left, cuts

    def closed(self, rows, active):
        """Return the greatest closed part of the rows for the active knots; all its rows are empty if one is."""
        left = list(rows)
        if 0 not in left:
            left, _ = self.settled(left, active, active)
        return [0 for _ in left] if 0 in left else left

    def with_row(self, rows, place, row, active):
        """Return the rows with another row of a variable, and those of the active knots that have to be asked then."""
        changed = list(rows)
        changed[place] = row
        return changed, self._touching[place] & active

    def chosen(self, rows, place, row, active):
        """Return `settled` for closed rows of which the row of a variable is made this smaller one."""
        less, waiting = self.with_row(rows, place, row, active)
        return self.settled(less, waiting, active)

    def allowed(self, rows, place, row, active):
        """Return the values in a row of a variable that each active knot supports in the rows of the others."""
        left, touching = self.with_row(rows, place, row, active)
        while touching != 0 and left[place] != 0:
            index = touching.bit_length() - 1
            knot = self.knots[index]
            left[place] = knot.supported(left)[knot.places.index(place)]
            touching = touching - (1 << index)
        return left[place]

    def needed(self, cuts, variables):
        """Return those of the cuts on which the rows of some variables depend, and all variables on which they do."""
        kept = []
        for cut in cuts[::-1]:
            if variables & (1 << cut[1]) != 0:
                variables = variables | self.knots[cut[0]].reach
                kept.append(cut)
        return kept[::-1], variables

    def strikes_of(self, cuts):
        """Return the list of the strikes that the cuts are."""
        return [
            (self.grid.names[place], value, self.labels[index])
            for index, place, row in cuts
            for value in self.grid.values_in(place, row)
        ]

    def struck(self, rows, strikes):
        """Return the rows without the values of the strikes, or None if a strike is not right."""
        left = list(rows)
        for variable, value, label in strikes:
            if variable not in self.grid.names or label not in self.labels:
                return None
            place = self.grid.places[variable]
            bit = self.grid.bit_of(place, value)
            knot = self.knots[self.labels.index(label)]
            if place not in knot.places or left[place] & bit == 0 or knot.supports(left, place, bit):
                return None
            left[place] = left[place] - bit
        return left
