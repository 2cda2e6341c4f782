"""Networks of spans: the least and the greatest differences of days over all completions."""

from fittingpasts.errors import NoCompletion, OutOfRange
from fittingpasts.words import check_known, check_names

MOST_POINTS = 16


def _best_steps(network):
    """Return the list of one step for each pair of points that a step joins: the one with the greatest sum."""
    points = network.points
    bound = network.first - network.last
    best = {(before, after): bound for before in points for after in points}
    for before, after, least in network.spans:
        best[before, after] = max(best[before, after], least)
    return [(before, after, least) for (before, after), least in best.items()]


def _turned(steps):
    """Return the list of the steps as they look when days are counted backwards."""
    return [(after, before, least) for before, after, least in steps]


def _raised(points, steps, start):
    """Raise the days of a dict until all steps hold, or until a point is raised without end.

    Return the raised days, a dict of the steps that raised the points last, and a point
    that is raised without end, or None.
    """
    days = {point: start[point] for point in start}
    raised_by = {}
    endless = None
    # A path without a ring has fewer steps than there are points: what the last round raises is raised forever.
    for _ in points:
        endless = None
        for before, after, least in steps:
            if before in days and (after not in days or days[before] + least > days[after]):
                days[after] = days[before] + least
                raised_by[after] = (before, after, least)
                endless = after
        if endless is None:
            break
    return days, raised_by, endless


def _walked_back(raised_by, begin, point):
    """Return the path of the steps that raised a point, from `begin` to this point, with at least one step."""
    path = [raised_by[point]]
    while path[-1][0] != begin:
        path.append(raised_by[path[-1][0]])
    return tuple(path[::-1])


def positive_ring(network):
    """Return a ring with a positive sum, or None if there is a completion."""
    start = {point: 0 for point in network.points}
    _, raised_by, point = _raised(network.points, _best_steps(network), start)
    if point is None:
        return None
    # The way back from the point may lead to the ring first; so many steps are surely on it.
    for _ in network.points:
        point = raised_by[point][0]
    return _walked_back(raised_by, point, point)


class Network:
    """Points, the spans between their days, and the bounds of all days."""

    def __init__(self, points, spans=(), *, first=0, last=30):
        points = tuple(points)
        spans = tuple([tuple(span) for span in spans])
        check_names(points, MOST_POINTS)
        for before, after, _ in spans:
            check_known((before, after), points)
        if last < first:
            raise OutOfRange(last)
        self.points = points
        self.spans = spans
        self.first = first
        self.last = last

    def __eq__(self, other):
        return (
            isinstance(other, Network)
            and self.points == other.points
            and self.spans == other.spans
            and self.first == other.first
            and self.last == other.last
        )

    def __add__(self, span):
        return Network(self.points, (*self.spans, span), first=self.first, last=self.last)

    def __contains__(self, span):
        return span in self.spans

    def _completed_steps(self):
        """Return the best steps; raise NoCompletion if no completion keeps them."""
        ring = positive_ring(self)
        if ring is not None:
            raise NoCompletion(ring)
        return _best_steps(self)

    def _days_behind(self, before):
        """Return a dict of the least differences of the days of all points and the day of `before`."""
        days, _, _ = _raised(self.points, self._completed_steps(), {before: 0})
        return days

    def is_possible(self):
        """Return True if there is a completion."""
        return positive_ring(self) is None

    def least_days(self):
        """Return the completion in which each point has its least day."""
        start = {point: self.first for point in self.points}
        days, _, _ = _raised(self.points, self._completed_steps(), start)
        return tuple([days[point] for point in self.points])

    def greatest_days(self):
        """Return the completion in which each point has its greatest day."""
        start = {point: -self.last for point in self.points}
        days, _, _ = _raised(self.points, _turned(self._completed_steps()), start)
        return tuple([-days[point] for point in self.points])

    def slack(self):
        """Return the tuple of how many days each point may be later than its least day."""
        return tuple([greatest - least for least, greatest in zip(self.least_days(), self.greatest_days())])

    def between(self, before, after):
        """Return the least and the greatest difference of the days of two points."""
        check_known((before, after), self.points)
        return (self._days_behind(before)[after], -self._days_behind(after)[before])

    def lead(self, before, after):
        """Return a path between two points whose sum is their least difference."""
        check_known((before, after), self.points)
        _, raised_by, _ = _raised(self.points, self._completed_steps(), {before: 0})
        if before == after:
            return ()
        return _walked_back(raised_by, before, after)

    def closest(self, before, after):
        """Return a completion in which the difference of two points is least."""
        check_known((before, after), self.points)
        days = self._days_behind(before)
        # No two days lie further apart than the bounds: with the earliest one at the first day, all lie within.
        earliest = min(days.values())
        return tuple([self.first + days[point] - earliest for point in self.points])

    def tied(self):
        """Return the list of the pairs of points whose difference is the same in all completions."""
        steps = self._completed_steps()
        behind = {point: _raised(self.points, steps, {point: 0})[0] for point in self.points}
        return [
            (before, after)
            for at, before in enumerate(self.points)
            for after in self.points[at + 1:]
            if behind[before][after] == -behind[after][before]
        ]


def _is_step(network, step):
    """Return True if a triple is a step of the network."""
    before, after, least = step
    if step in network:
        return True
    return before in network.points and after in network.points and least == network.first - network.last


def path_sum(network, path):
    """Return the sum of the path, or None if it is not a path of the network."""
    if not all([_is_step(network, step) for step in path]):
        return None
    if not all([step[0] == path[at][1] for at, step in enumerate(path[1:])]):
        return None
    return sum([least for _, _, least in path])


def judge_ring(network, ring):
    """Return True if this is a ring of the network with a positive sum."""
    total = path_sum(network, ring)
    if total is None or len(ring) == 0:
        return False
    return ring[0][0] == ring[-1][1] and total > 0
