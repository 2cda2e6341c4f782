"""Ties as cases: lists of boxes. A choice of values keeps a tie exactly if some box of some case has all of them.

A box is a dict with a row for some variables of the scope; a variable without a row may have any value.
The boxes of a case go together, as the days of one event ahead of another do; different cases say different things.
"""

from fittingpasts.cycles import is_whole, place_on
from fittingpasts.demands import SIGNS
from fittingpasts.meanings import is_said_rightly
from fittingpasts.statements import statements_of

# What the comparison of two rolls by a rule may give.
BEFORE = (-1,)
NOT_BEFORE = (0, 1)
AFTER = (1,)
NOT_AFTER = (-1, 0)


def _box(sides):
    """Return the box with these pairs of a variable and a row; two rows of one variable both hold."""
    box = {}
    for variable, row in sides:
        box[variable] = box[variable] & row if variable in box else row
    return box


def _with_side(cases, variable, row):
    """Return the list of the cases, of which each box has a row for one more variable."""
    return [[{**box, variable: row} for box in case] for case in cases]


def _later(scale, other, least):
    """Return the boxes that say that the other day is at least so many days later than the day."""
    return [
        _box([(scale.variable, scale.up_to(day)), (other.variable, other.since(day + least))])
        for day in range(scale.many)
    ]


def _within(scale, other, least, most):
    """Return the boxes that say that the other day is at least and at most so many days later than the day."""
    return [
        _box([
            (scale.variable, scale.on(day)),
            (other.variable, other.since(day + least) & other.up_to(day + most)),
        ])
        for day in range(scale.many)
    ]


def _apart(grid, positive, first, second, least, most):
    scale, other = grid.scale(first), grid.scale(second)
    if not positive:
        sooner = [] if least is None else [_later(other, scale, 1 - least)]
        later = [] if most is None else [_later(scale, other, most + 1)]
        return [*sooner, *later]
    if least is None:
        return [[{}]] if most is None else [_later(other, scale, -most)]
    return [_later(scale, other, least)] if most is None else [_within(scale, other, least, most)]


def _dated(grid, positive, point, name, place):
    scale = grid.scale(point)
    variable = ("cycle", name)
    boxes = []
    for day in range(scale.many):
        cycles = [cycle for cycle in grid.values_at(variable) if (place_on(cycle, day) == place) == positive]
        boxes.append(_box([(scale.variable, scale.on(day)), (variable, grid.row_of(variable, cycles))]))
    return [boxes]


def _whole(grid, positive, inner, outer):
    variable, around = ("cycle", inner), ("cycle", outer)
    boxes = []
    for at, cycle in enumerate(grid.values_at(variable)):
        outers = [value for value in grid.values_at(around) if is_whole(cycle, value) == positive]
        boxes.append(_box([(variable, 1 << at), (around, grid.row_of(around, outers))]))
    return [boxes]


def _present(grid, positive, person, event):
    scale = grid.scale(event)
    come, go = grid.scale(f"{person}+"), grid.scale(f"{person}-")
    if not positive:
        return [_later(scale, come, 1), _later(go, scale, 1)]
    return [[
        _box([(scale.variable, scale.on(day)), (come.variable, come.up_to(day) & go.since(day))])
        for day in range(scale.many)
    ]]


def _together(grid, positive, person, other):
    come, go = grid.scale(f"{person}+"), grid.scale(f"{person}-")
    other_come, other_go = grid.scale(f"{other}+"), grid.scale(f"{other}-")
    if not positive:
        return [_later(go, other_come, 1), _later(other_go, come, 1)]
    return [[
        _box([
            (come.variable, come.up_to(day) & go.since(day)),
            (other_come.variable, other_come.up_to(day) & other_go.since(day)),
        ])
        for day in range(come.many)
    ]]


def _heard(grid, positive, person, point):
    heard, scale = grid.heard_scale(person), grid.scale(point)
    return [_later(heard, scale, 0) if positive else _later(scale, heard, 1)]


def _same_rule(grid, positive, shelf, other):
    variable, like = ("rule", shelf), ("rule", other)
    every = grid.whole(variable)
    rules = [1 << at for at in range(len(grid.values_at(variable)))]
    return [[_box([(variable, rule), (like, rule if positive else every - rule)]) for rule in rules]]


def _of_ages(scale, other, signs):
    """Return the cases that say that the sign of two ages is one of these."""
    if len(signs) == len(SIGNS):
        return [[{}]]
    if scale.variable == other.variable:
        return [[{}]] if 0 in signs else []
    nearest = 0 if 0 in signs else 1
    sooner = [_later(scale, other, nearest)] if -1 in signs else []
    later = [_later(other, scale, nearest)] if 1 in signs else []
    return [*sooner, *later]


def _by_rule(grid, shelf, roll, other, results):
    """Return the cases that say that the comparison of two rolls by the rule of the shelf gives one of the results."""
    event, other_event = grid.frame.event_of(roll), grid.frame.event_of(other)
    cases = []
    for signs, row in grid.rules_by_signs(roll, other, results).items():
        ages = _of_ages(grid.scale(event), grid.scale(other_event), signs)
        cases.extend(_with_side(ages, ("rule", shelf), row))
    return cases


def _filed(grid, positive, shelf, roll, other):
    return _by_rule(grid, shelf, roll, other, BEFORE if positive else NOT_BEFORE)


def _piled(grid, positive, lower, upper):
    scale, other = grid.scale(grid.frame.event_of(lower)), grid.scale(grid.frame.event_of(upper))
    return [_later(scale, other, 0) if positive else _later(other, scale, 1)]


CASES = {
    "apart": _apart,
    "dated": _dated,
    "whole": _whole,
    "present": _present,
    "together": _together,
    "heard": _heard,
    "samerule": _same_rule,
    "filed": _filed,
    "piled": _piled,
}


def _of_one_variable(grid, statement, variable):
    """Return the cases of a statement that speaks of one variable only."""
    frame, words = grid.frame, statement.words
    values = [
        value for value in grid.values_at(variable)
        if is_said_rightly(frame, words, {variable: value}) == statement.positive
    ]
    return [[{variable: grid.row_of(variable, values)}]]


def _statement_cases(grid, statement):
    """Return the list of the cases of a statement."""
    kind, *words = statement.words
    if kind not in CASES:
        return _of_one_variable(grid, statement, statement.scope(grid.frame)[0])
    make = CASES[kind]
    return make(grid, statement.positive, *words)


def paper_cases(grid, paper):
    """Return the list of the cases of a paper: those of each of its statements."""
    return [case for statement in statements_of(paper) for case in _statement_cases(grid, statement)]


def _begin_cases(grid, person):
    begin, source = ("begin", ""), ("source", person)
    this, own = grid.row_of(begin, [person]), grid.row_of(source, [(person,)])
    return [
        [{begin: this, source: own}],
        [{begin: grid.whole(begin) - this, source: grid.whole(source) - own}],
    ]


def _hear_cases(grid, person):
    source, heard = ("source", person), grid.heard_scale(person)
    cases = [
        [{source: grid.row_of(source, [()]), heard.variable: heard.on(grid.frame.last + 1)}],
        [{source: grid.row_of(source, [(person,)]), heard.variable: heard.on(0)}],
    ]
    for value in grid.values_at(source)[2:]:
        told, scale = grid.heard_scale(value[0]), grid.scale(value[1])
        row = grid.row_of(source, [value])
        cases.append([
            {
                source: row,
                scale.variable: scale.on(day),
                heard.variable: heard.on(day),
                told.variable: told.up_to(day - 1),
            }
            for day in range(1, scale.many)
        ])
    return cases


def _sorted_cases(grid, shelf, roll, other):
    astray = ("astray", shelf)
    return [[{astray: grid.row_of(astray, [roll, other])}], *_by_rule(grid, shelf, roll, other, NOT_AFTER)]


def _astray_cases(grid, shelf):
    astray = ("astray", shelf)
    cases = [[{astray: grid.row_of(astray, [""])}]]
    rolls = grid.frame.rolls_on(shelf)
    for at, roll in enumerate(rolls):
        for other in rolls[at + 1:]:
            wrong = _by_rule(grid, shelf, roll, other, AFTER)
            cases.extend(_with_side(wrong, astray, grid.row_of(astray, [roll, other])))
    return cases


def house_cases(grid, label):
    """Return the list of the cases of a house tie."""
    kind, name = label[0], label[1]
    if kind == "guest":
        return _present(grid, True, label[2], name)
    if kind == "begin":
        return _begin_cases(grid, name)
    if kind == "hear":
        return _hear_cases(grid, name)
    if kind == "astray":
        return _astray_cases(grid, name)
    return _sorted_cases(grid, name, label[2], label[3])
