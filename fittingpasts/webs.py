"""Webs: all ties of a frame and papers, and the striking of values that some of them do not support."""

from fittingpasts.grids import Grid
from fittingpasts.knots import knot_of, knot_of_paper
from fittingpasts.statements import statements_of
from fittingpasts.ties import tie_labels


def _cost_of(knot):
    """Return a key that puts the knots that cost most ahead."""
    return (-len(knot.places), -knot.many)


def _statements_by_knot(knots, papers):
    """Return a dict from the indexes of the knots of clauses of several statements to the lists of these."""
    return {
        at: statements_of(papers[knot.label[1]])
        for at, knot in enumerate(knots)
        if knot.label[0] == "paper" and len(statements_of(papers[knot.label[1]])) > 1
    }


class Web:
    """The knots of all ties of a frame and papers.

    Several knots are an integer: the bit at an index tells whether the knot at this index is meant.
    So are several variables. Rows are a list with an integer for each variable.
    """

    def __init__(self, frame, papers):
        grid = Grid(frame)
        knots = [knot_of(grid, papers, label) for label in tie_labels(frame, papers)]
        self.grid = grid
        self.knots = sorted(knots, key=_cost_of)
        self.labels = [knot.label for knot in self.knots]
        self.all_knots = (1 << len(knots)) - 1
        self.clauses = _statements_by_knot(self.knots, papers)
        # From the index of the knot of a clause to the knots of its statements, and back.
        self._singles = {}
        self.clause_of = {}
        self._touching = [
            sum([1 << at for at, knot in enumerate(self.knots) if place in knot.places])
            for place in range(len(grid.names))
        ]

    def added(self, label, paper):
        """Add the knot of one more paper, which is not one of `all_knots`, and return it."""
        at = len(self.knots)
        knot = knot_of_paper(self.grid, label, paper)
        self.knots.append(knot)
        self.labels.append(label)
        for place in knot.places:
            self._touching[place] = self._touching[place] | (1 << at)
        return 1 << at

    def paper_knot(self, at):
        """Return the knot of the paper at an index."""
        return 1 << self.labels.index(("paper", at))

    def single_knots(self, at):
        """Return the list of the knots of the statements of the clause at an index, each by itself."""
        if at not in self._singles:
            self._singles[at] = [self.added(self.labels[at], statement) for statement in self.clauses[at]]
            for knot in self._singles[at]:
                self.clause_of[knot.bit_length() - 1] = at
        return self._singles[at]

    def settled(self, rows, waiting, active):
        """Strike what the active knots do not support, beginning with the waiting ones, until a row is empty.

        Return the rows that are left, and the list of the cuts: triples of the index of a knot,
        the index of a variable, and the row of the values that are struck.
        """
        left = list(rows)
        cuts = []
        while waiting != 0:
            # The last knots cost least.
            index = waiting.bit_length() - 1
            knot = self.knots[index]
            for place, row in zip(knot.places, knot.supported(left)):
                if row != left[place]:
                    cuts.append((index, place, left[place] - row))
                    left[place] = row
                    waiting = waiting | (self._touching[place] & active)
                if row == 0:
                    return left, cuts
            # What is struck now was of no use to the other values: the knot has nothing more to strike.
            waiting = waiting & ~(1 << index)
        return left, cuts

    def closed(self, rows, active):
        """Return the greatest closed part of the rows for the active knots; all its rows are empty if one is."""
        left = list(rows)
        if 0 not in left:
            left, _ = self.settled(left, active, active)
        return [0 for _ in left] if 0 in left else left

    def with_row(self, rows, place, row, active):
        """Return the rows with another row of a variable, and those of the active knots that have to be asked then."""
        changed = list(rows)
        changed[place] = row
        return changed, self._touching[place] & active

    def chosen(self, rows, place, row, active):
        """Return `settled` for closed rows of which the row of a variable is made this smaller one."""
        less, waiting = self.with_row(rows, place, row, active)
        return self.settled(less, waiting, active)

    def needed(self, cuts, variables):
        """Return those of the cuts on which the rows of some variables depend, and all variables on which they do."""
        kept = []
        for cut in cuts[::-1]:
            if variables & (1 << cut[1]) != 0:
                variables = variables | self.knots[cut[0]].reach
                kept.append(cut)
        return kept[::-1], variables

    def strikes_of(self, cuts):
        """Return the list of the strikes that the cuts are."""
        return [
            (self.grid.names[place], value, self.labels[index])
            for index, place, row in cuts
            for value in self.grid.values_in(place, row)
        ]

    def struck(self, rows, strikes):
        """Return the rows without the values of the strikes, or None if a strike is not right."""
        left = list(rows)
        for variable, value, label in strikes:
            if variable not in self.grid.names or label not in self.labels:
                return None
            place = self.grid.places[variable]
            bit = self.grid.bit_of(place, value)
            knot = self.knots[self.labels.index(label)]
            if place not in knot.places or left[place] & bit == 0 or knot.supports(left, place, bit):
                return None
            left[place] = left[place] - bit
        return left
