"""Knots: ties over rows of values, told by boxes, so that what a tie supports is found without all choices.

Several boxes are an integer: the bit at an index tells whether the box at this index is meant.
"""

from fittingpasts.boxes import house_boxes, paper_boxes
from fittingpasts.house import tie_scope


class Side:
    """What boxes say of one variable. Answers are kept, because the same rows are asked for again and again."""

    def __init__(self, place, pairs):
        self.place = place
        self.met = {}
        self.had = {}
        self._pairs = pairs
        self._around = {}

    def boxes_with(self, row):
        """Return the boxes that have some value of the row, and keep them in `met`."""
        self.met[row] = sum([boxes for part, boxes in self._pairs if part & row != 0])
        return self.met[row]

    def row_of(self, boxes):
        """Return the row of the values that some of the boxes have, and keep it in `had`."""
        row = 0
        for part, those in self._pairs:
            if those & boxes != 0:
                row = row | part
        self.had[boxes] = row
        return row

    def boxes_around(self, row):
        """Return the boxes that have all values of the row."""
        if row not in self._around:
            self._around[row] = sum([boxes for part, boxes in self._pairs if part & row == row])
        return self._around[row]


def _sides_of(grid, variables, boxes):
    """Return the list of the sides of the variables: each row that boxes have, and which boxes have it."""
    every = (1 << len(boxes)) - 1
    free = {variable: every for variable in variables}
    rows = {variable: {} for variable in variables}
    for at, box in enumerate(boxes):
        for variable, row in box.items():
            those = rows[variable]
            those[row] = those.get(row, 0) | (1 << at)
            free[variable] = free[variable] ^ (1 << at)
    # A box without a row for a variable has all of its values.
    return [
        Side(grid.places[variable], [*list(rows[variable].items()), (grid.whole(variable), free[variable])])
        for variable in variables
    ]


class Knot:
    """A tie of some variables, with its boxes."""

    def __init__(self, grid, label, variables, boxes):
        full = [box for box in boxes if 0 not in list(box.values())]
        self.label = label
        self.places = tuple([grid.places[variable] for variable in variables])
        self.reach = sum([1 << place for place in self.places])
        self.many = len(full)
        self._every = (1 << len(full)) - 1
        self._sides = _sides_of(grid, variables, full)

    def supported(self, rows):
        """Return the list of the rows of the scope with the supported values only."""
        boxes = self._every
        for side in self._sides:
            row = rows[side.place]
            boxes = boxes & (side.met[row] if row in side.met else side.boxes_with(row))
        return [
            rows[side.place] & (side.had[boxes] if boxes in side.had else side.row_of(boxes))
            for side in self._sides
        ]

    def supports(self, rows, place, bit):
        """Return True if a value of the variable at the index, given as its bit, is supported."""
        less = list(rows)
        less[place] = bit
        return self.supported(less)[0] != 0

    def is_loose(self, rows):
        """Return True if one box has all choices of the rows, so that the tie holds for each of them."""
        boxes = self._every
        for side in self._sides:
            boxes = boxes & side.boxes_around(rows[side.place])
        return boxes != 0


def tied_scope(frame, papers, label):
    """Return the scope of a tie that the frame and the papers have."""
    return papers[label[1]].scope(frame) if label[0] == "paper" else tie_scope(frame, label)


def knot_of_paper(grid, label, paper):
    """Return the knot with this label of a paper."""
    return Knot(grid, label, paper.scope(grid.frame), paper_boxes(grid, paper))


def knot_of(grid, papers, label):
    """Return the knot of a tie that the frame and the papers have."""
    if label[0] == "paper":
        return knot_of_paper(grid, label, papers[label[1]])
    return Knot(grid, label, tie_scope(grid.frame, label), house_boxes(grid, label))
