"""What the words of each kind of statement speak of, and when they are true."""

from fittingpasts.cycles import is_whole, place_on
from fittingpasts.house import aged_roll
from fittingpasts.rules import Rule
from fittingpasts.stays import Stay
from fittingpasts.variables import day_by, in_order, point_variable

# For what each word behind the kind stands: for the variable of this kind with the word as its name,
# for a point, for the age of a roll, for a mark of a rule, for who began, or for itself.
ROLES = {
    "apart": ("point", "point", "", ""),
    "onday": ("point", "", ""),
    "dated": ("point", "cycle", ""),
    "long": ("cycle", "", ""),
    "whole": ("cycle", "cycle"),
    "present": ("stay", "day"),
    "together": ("stay", "stay"),
    "heard": ("heard", "point"),
    "told": ("", "source", ""),
    "began": ("begin",),
    "rises": ("rule", "mark"),
    "outranks": ("rule", "mark", "mark"),
    "samerule": ("rule", "rule"),
    "astray": ("astray", ""),
    "filed": ("rule", "roll", "roll"),
    "piled": ("roll", "roll"),
}


def _variable_of(frame, role, word):
    """Return the variable for which a word stands, or None if it stands for none."""
    if role == "point":
        return point_variable(frame, word)
    if role == "roll":
        return ("day", frame.event_of(word))
    if role == "begin":
        return ("begin", "")
    return None if role in ("", "mark") else (role, word)


def spoken_of(frame, words):
    """Return the tuple of the variables of which the words of a statement speak, in order."""
    return in_order(frame, [_variable_of(frame, role, word) for role, word in zip(ROLES[words[0]], words[1:])])


def _thing_of(frame, role, word, chosen):
    """Return for what a word stands where the variables have the chosen values."""
    if role == "":
        return word
    if role == "mark":
        return (*frame.marks, "age").index(word)
    if role == "roll":
        return aged_roll(frame, word, chosen)
    value = chosen[_variable_of(frame, role, word)]
    if role == "point":
        return day_by(word, value)
    if role == "begin":
        return value == word
    if role == "stay":
        come, go = value
        return Stay(come, go)
    return Rule(value) if role == "rule" else value


def _is_apart(day, later, least, most):
    return (least is None or later - day >= least) and (most is None or later - day <= most)


def _is_on_day(day, first, last):
    return first <= day <= last


def _is_dated(day, cycle, place):
    return place_on(cycle, day) == place


def _is_long(cycle, least, most):
    return least <= cycle[0] <= most


def _is_whole(inner, outer):
    return is_whole(inner, outer)


def _is_present(stay, day):
    return day in stay


def _is_together(stay, other):
    return stay.meets(other)


def _is_heard(heard, day):
    return heard <= day


def _is_told(teller, source, event):
    return len(source) == 2 and source[0] == teller and event in (None, source[1])


def _has_begun(begun):
    return begun


def _rises(rule, mark):
    return rule.direction_of(mark) == 1


def _outranks(rule, mark, other):
    marks = rule.mark_order()
    return marks.index(mark) < marks.index(other)


def _is_same(rule, other):
    return rule == other


def _is_astray(stray, roll):
    return stray != "" and roll in (None, stray)


def _is_filed(rule, roll, other):
    return rule.compare(roll, other) == -1


def _is_piled(lower, upper):
    return lower[-1] <= upper[-1]


TRUTHS = {
    "apart": _is_apart,
    "onday": _is_on_day,
    "dated": _is_dated,
    "long": _is_long,
    "whole": _is_whole,
    "present": _is_present,
    "together": _is_together,
    "heard": _is_heard,
    "told": _is_told,
    "began": _has_begun,
    "rises": _rises,
    "outranks": _outranks,
    "samerule": _is_same,
    "astray": _is_astray,
    "filed": _is_filed,
    "piled": _is_piled,
}


def is_said_rightly(frame, words, chosen):
    """Return True if the words of a statement are true; `chosen` has the values by their variables."""
    things = [_thing_of(frame, role, word, chosen) for role, word in zip(ROLES[words[0]], words[1:])]
    truth = TRUTHS[words[0]]
    return truth(*things)
