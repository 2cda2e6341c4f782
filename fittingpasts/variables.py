"""Variables: what a past fixes, and between which values it has the choice."""

from fittingpasts.cycles import all_cycles
from fittingpasts.errors import UnknownName, UnknownVariable
from fittingpasts.rules import all_rules

PARTS = {
    "day": "orders",
    "stay": "stays",
    "begin": "tellings",
    "source": "tellings",
    "heard": "tellings",
    "cycle": "cycles",
    "rule": "shelves",
    "astray": "shelves",
}
# The kinds of which each variable has the same values, whatever its name is.
ALIKE = ("day", "stay", "heard", "rule")


def variables(frame):
    """Return the list of the variables of the frame."""
    shelves = [name for name, _ in frame.shelves]
    return [
        *[("day", event) for event in frame.events],
        *[("stay", person) for person in frame.people],
        *[("begin", "") for _ in frame.people[:1]],
        *[("source", person) for person in frame.people],
        *[("heard", person) for person in frame.people],
        *[("cycle", name) for name, _, _ in frame.cycles],
        *[("rule", shelf) for shelf in shelves],
        *[("astray", shelf) for shelf in shelves],
    ]


def in_order(frame, wanted):
    """Return the tuple of the variables of the frame that are among the wanted ones, each once."""
    return tuple([variable for variable in variables(frame) if variable in wanted])


def _sources_of(frame, person):
    """Return the tuple of the values of the person's source."""
    told = [
        (teller, event)
        for event, guests in frame.meetings
        for teller in guests
        if person in guests and teller != person
    ]
    return ((), (person,), *told)


def _cycles_of(frame, name):
    """Return the tuple of the values of the cycle with this name."""
    bounds = [(least, most) for known, least, most in frame.cycles if known == name]
    return tuple([cycle for least, most in bounds for cycle in all_cycles(least, most)])


def _values_for(frame, kind, name):
    """Return the tuple of the values of the variable of this kind and name, which the frame has."""
    if kind == "day":
        return tuple(range(frame.last + 1))
    if kind == "stay":
        return tuple([(come, go) for come in range(frame.last + 1) for go in range(come, frame.last + 1)])
    if kind == "begin":
        return frame.people
    if kind == "source":
        return _sources_of(frame, name)
    if kind == "heard":
        return tuple(range(frame.last + 2))
    if kind == "cycle":
        return _cycles_of(frame, name)
    if kind == "rule":
        return tuple([rule.terms for rule in all_rules(len(frame.marks) + 1)])
    return ("", *frame.rolls_on(name))


def values_of(frame, variable):
    """Return the tuple of the values of the variable."""
    if variable not in variables(frame):
        raise UnknownVariable(variable)
    kind, name = variable
    return _values_for(frame, kind, name)


def all_values(frame):
    """Return the tuple of the values of all variables of the frame, in their order."""
    names = variables(frame)
    kinds = [kind for kind, _ in names]
    shared = {kind: _values_for(frame, kind, "") for kind in ALIKE if kind in kinds}
    return tuple([shared[kind] if kind in shared else _values_for(frame, kind, name) for kind, name in names])


def part_name(variable):
    """Return the name of the part to which the variable belongs."""
    if variable[0] not in PARTS:
        raise UnknownVariable(variable)
    return PARTS[variable[0]]


def point_variable(frame, point):
    """Return the variable that fixes the day of the point."""
    if point in frame.events:
        return ("day", point)
    if point.endswith("+") or point.endswith("-"):
        if point[:-1] in frame.people:
            return ("stay", point[:-1])
    raise UnknownName(point)


def day_by(point, value):
    """Return the day of the point, by the value of its variable."""
    if point.endswith("+"):
        return value[0]
    return value[1] if point.endswith("-") else value
