"""Knots: ties over rows of values, told by cases of boxes, so that what a tie supports is found without all choices.

Several boxes are an integer: the bit at an index tells whether the box at this index is meant.
"""

from fittingpasts.boxes import house_cases, paper_cases
from fittingpasts.house import tie_scope


class Side:
    """What boxes say of one variable. Answers are kept, because the same rows are asked for again and again."""

    def __init__(self, place, pairs):
        self.place = place
        self.met = {}
        self.had = {}
        self._pairs = pairs
        self._around = {}

    def boxes_with(self, row):
        """Return the boxes that have some value of the row, and keep them in `met`."""
        if row not in self.met:
            self.met[row] = sum([boxes for part, boxes in self._pairs if part & row != 0])
        return self.met[row]

    def row_of(self, boxes):
        """Return the row of the values that some of the boxes have, and keep it in `had`."""
        row = 0
        for part, those in self._pairs:
            if those & boxes != 0:
                row = row | part
        self.had[boxes] = row
        return row

    def boxes_around(self, row):
        """Return the boxes that have all values of the row."""
        if row not in self._around:
            self._around[row] = sum([boxes for part, boxes in self._pairs if part & row == row])
        return self._around[row]


def _sides_of(grid, variables, boxes):
    """Return the list of the sides of the variables: each row that boxes have, and which boxes have it."""
    every = (1 << len(boxes)) - 1
    free = {variable: every for variable in variables}
    rows = {variable: {} for variable in variables}
    for at, box in enumerate(boxes):
        for variable, row in box.items():
            those = rows[variable]
            those[row] = those.get(row, 0) | (1 << at)
            free[variable] = free[variable] ^ (1 << at)
    # A box without a row for a variable has all of its values.
    return [
        Side(grid.places[variable], [*list(rows[variable].items()), (grid.whole(variable), free[variable])])
        for variable in variables
    ]


def _full_cases(cases):
    """Return the list of the cases without the boxes that have nothing, and without cases of such boxes alone."""
    full = [[box for box in case if 0 not in list(box.values())] for case in cases]
    return [case for case in full if case != []]


def _variables_in(case):
    """Return the list of the variables of which a case speaks."""
    return list({variable: True for box in case for variable in box})


def _boxes_by_case(cases):
    """Return the list of the boxes of each case, all boxes being numbered through."""
    found = []
    before = 0
    for case in cases:
        found.append(((1 << len(case)) - 1) << before)
        before += len(case)
    return found


class Knot:
    """A tie of some variables, with its cases."""

    def __init__(self, grid, label, variables, cases):
        full = _full_cases(cases)
        boxes = [box for case in full for box in case]
        self.label = label
        self.cases = full
        self.places = tuple([grid.places[variable] for variable in variables])
        self.reach = sum([1 << place for place in self.places])
        self.many = len(boxes)
        self._every = (1 << len(boxes)) - 1
        self._by_case = _boxes_by_case(full)
        self._reaches = [sum([1 << grid.places[variable] for variable in _variables_in(case)]) for case in full]
        self._sides = _sides_of(grid, variables, boxes)

    def supported(self, rows):
        """Return the list of the rows of the scope with the supported values only."""
        # This is asked most of all: what is known is not asked for by a call.
        boxes = self._every
        for side in self._sides:
            row = rows[side.place]
            boxes = boxes & (side.met[row] if row in side.met else side.boxes_with(row))
        return [
            rows[side.place] & (side.had[boxes] if boxes in side.had else side.row_of(boxes))
            for side in self._sides
        ]

    def supports(self, rows, place, bit):
        """Return True if a value of the variable at the index, given as its bit, is supported."""
        less = list(rows)
        less[place] = bit
        return self.supported(less)[0] != 0

    def boxes_in(self, rows):
        """Return the boxes that have some choice of the rows."""
        boxes = self._every
        for side in self._sides:
            boxes = boxes & side.boxes_with(rows[side.place])
        return boxes

    def open_cases(self, rows):
        """Return the list of the indexes of the cases that some choice of the rows keeps."""
        boxes = self.boxes_in(rows)
        return [at for at, those in enumerate(self._by_case) if those & boxes != 0]

    def closed_reach(self, rows):
        """Return the variables of which those cases speak that no choice of the rows keeps."""
        still_open = self.open_cases(rows)
        reach = 0
        for at, part in enumerate(self._reaches):
            if at not in still_open:
                reach = reach | part
        return reach

    def is_loose(self, rows):
        """Return True if one box has all choices of the rows, so that the tie holds for each of them."""
        boxes = self._every
        for side in self._sides:
            boxes = boxes & side.boxes_around(rows[side.place])
        return boxes != 0


def tied_scope(frame, papers, label):
    """Return the scope of a tie that the frame and the papers have."""
    return papers[label[1]].scope(frame) if label[0] == "paper" else tie_scope(frame, label)


def knot_of_paper(grid, label, paper):
    """Return the knot with this label of a paper."""
    return Knot(grid, label, paper.scope(grid.frame), paper_cases(grid, paper))


def knot_of_case(grid, knot, at):
    """Return the knot of one case of a knot, with the same label."""
    case = knot.cases[at]
    return Knot(grid, knot.label, _variables_in(case), [case])


def knot_of(grid, papers, label):
    """Return the knot of a tie that the frame and the papers have."""
    if label[0] == "paper":
        return knot_of_paper(grid, label, papers[label[1]])
    return Knot(grid, label, tie_scope(grid.frame, label), house_cases(grid, label))
