"""The house ties: what a past must keep beside the papers."""

from fittingpasts.errors import UnknownTie
from fittingpasts.rules import Rule
from fittingpasts.spans import Network
from fittingpasts.variables import in_order


def aged_roll(frame, roll, days):
    """Return the values of the roll, followed by its age; `days` has the days by their variables."""
    return (*frame.values_of_roll(roll), days["day", frame.event_of(roll)])


def _guest_ties(frame):
    """Return the list of the labels of the ties that say who was in the house at a meeting."""
    return [("guest", event, person) for event, guests in frame.meetings for person in guests]


def _sorted_ties(shelf, rolls):
    """Return the list of the labels of the ties that say that the shelf is sorted."""
    return [("sorted", shelf, roll, other) for at, roll in enumerate(rolls) for other in rolls[at + 1:]]


def house_ties(frame):
    """Return the list of the labels of the house ties."""
    return [
        *_guest_ties(frame),
        *[("begin", person) for person in frame.people],
        *[("hear", person) for person in frame.people],
        *[label for shelf, rolls in frame.shelves for label in _sorted_ties(shelf, rolls)],
        *[("astray", shelf) for shelf, _ in frame.shelves],
    ]


def _hear_scope(frame, person):
    """Return the list of the variables that say how the person heard."""
    meetings = [(event, guests) for event, guests in frame.meetings if person in guests]
    return [
        *[("day", event) for event, _ in meetings],
        ("source", person),
        ("heard", person),
        *[("heard", guest) for _, guests in meetings for guest in guests],
    ]


def tie_scope(frame, label):
    """Return the scope of the tie."""
    if label not in house_ties(frame):
        raise UnknownTie(label)
    kind, name = label[0], label[1]
    if kind == "guest":
        return in_order(frame, [("day", name), ("stay", label[2])])
    if kind == "begin":
        return in_order(frame, [("begin", ""), ("source", name)])
    if kind == "hear":
        return in_order(frame, _hear_scope(frame, name))
    rolls = label[2:] if kind == "sorted" else frame.rolls_on(name)
    return in_order(frame, [*[("day", frame.event_of(roll)) for roll in rolls], ("rule", name), ("astray", name)])


def _is_heard(frame, person, chosen):
    """Return True if the person heard when the person's source says so."""
    source = chosen["source", person]
    heard = chosen["heard", person]
    if len(source) == 0:
        return heard == frame.last + 1
    if len(source) == 1:
        return heard == 0
    teller, event = source
    return heard == chosen["day", event] and chosen["heard", teller] < heard


def _comes_after(frame, shelf, roll, other, chosen):
    """Return True if the roll comes after the other one by the rule of the shelf."""
    rule = Rule(chosen["rule", shelf])
    return rule.compare(aged_roll(frame, roll, chosen), aged_roll(frame, other, chosen)) == 1


def _is_astray(frame, shelf, chosen):
    """Return True if the roll that is said to be astray is in a wrong pair, or if none is astray."""
    stray = chosen["astray", shelf]
    pairs = [(roll, other) for _, _, roll, other in _sorted_ties(shelf, frame.rolls_on(shelf))]
    wrong = [pair for pair in pairs if stray in pair and _comes_after(frame, shelf, pair[0], pair[1], chosen)]
    return stray == "" or len(wrong) > 0


def is_kept(frame, label, chosen):
    """Return True if a house tie of the frame holds; `chosen` has the values by their variables."""
    kind, name = label[0], label[1]
    if kind == "guest":
        come, go = chosen["stay", label[2]]
        return come <= chosen["day", name] <= go
    if kind == "begin":
        return (chosen["source", name] == (name,)) == (chosen["begin", ""] == name)
    if kind == "hear":
        return _is_heard(frame, name, chosen)
    if kind == "astray":
        return _is_astray(frame, name, chosen)
    _, _, roll, other = label
    return chosen["astray", name] in (roll, other) or not _comes_after(frame, name, roll, other, chosen)


def tie_holds(frame, label, values):
    """Return True if the tie holds with these values of the variables of its scope."""
    return is_kept(frame, label, dict(zip(tie_scope(frame, label), values)))


def frame_network(frame):
    """Return the network of the events and of the days of coming and going."""
    points = [*frame.events, *[f"{person}{end}" for person in frame.people for end in ("+", "-")]]
    spans = [(f"{person}+", f"{person}-", 0) for person in frame.people]
    for _, event, person in _guest_ties(frame):
        spans.append((f"{person}+", event, 0))
        spans.append((event, f"{person}-", 0))
    return Network(points, spans, first=0, last=frame.last)
