"""Measures: how many days lay between two points, and what is sure of events and people."""

from fittingpasts.deciding import Decider
from fittingpasts.orders import Order
from fittingpasts.reading import check_papers
from fittingpasts.statements import Apart, Heard, Together
from fittingpasts.variables import point_variable


class Measure:
    """The least and the greatest difference of two days, the pasts that have them, and why no past has others."""

    def __init__(self, least, most, low, high, below, above):
        self.least = least
        self.most = most
        self.low = low
        self.high = high
        self.below = below
        self.above = above


def _decider_for(frame, papers, points):
    """Return the decider for the papers; raise an error for them, for unknown points, or if no past fits."""
    check_papers(frame, papers)
    for point in points:
        point_variable(frame, point)
    decider = Decider(frame, papers)
    decider.check_fitting()
    return decider


def _most_days(decider, last, first, second):
    """Return the greatest difference of the day of the second point and that of the first one."""
    found = decider.fitting()
    least = found.day_of(second) - found.day_of(first)
    most = last
    # Halfway between what is known to be possible and what is not known to be impossible, again and again.
    while least < most:
        middle = (least + most + 1) // 2
        found = decider.fitting(Apart(first, second, middle))
        if found is None:
            most = middle - 1
        else:
            least = found.day_of(second) - found.day_of(first)
    return most


def days_between(frame, papers, first, second):
    """Return the measure of how many days the second point is later than the first one."""
    decider = _decider_for(frame, papers, (first, second))
    least = -_most_days(decider, frame.last, second, first)
    most = _most_days(decider, frame.last, first, second)
    return Measure(
        least,
        most,
        decider.first_fitting(Apart(first, second, least, least)),
        decider.first_fitting(Apart(first, second, most, most)),
        decider.refuting(Apart(first, second, None, least - 1)),
        decider.refuting(Apart(first, second, most + 1)),
    )


def sure_order(frame, papers):
    """Return the order of the events that all fitting pasts keep."""
    decider = _decider_for(frame, papers, ())
    pairs = [(event, other) for event in frame.events for other in frame.events if event != other]
    return Order(frame.events, [pair for pair in pairs if decider.is_sure(Apart(pair[0], pair[1], 1))])


def sure_together(frame, papers):
    """Return the list of the pairs of people who were surely in the house together."""
    decider = _decider_for(frame, papers, ())
    pairs = [(person, other) for at, person in enumerate(frame.people) for other in frame.people[at + 1:]]
    return [pair for pair in pairs if decider.is_sure(Together(pair[0], pair[1]))]


def sure_heard(frame, papers, point):
    """Return the list of the people who had surely heard the news on the day of the point."""
    decider = _decider_for(frame, papers, (point,))
    return [person for person in frame.people if decider.is_sure(Heard(person, point))]
