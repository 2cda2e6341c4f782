"""Which statements and papers suit a frame, and which ones a text writes."""

from fittingpasts.errors import EmptyClause, InvalidText, OutOfRange, TooMany, UnknownName
from fittingpasts.statements import Clause, Statement, statements_of
from fittingpasts.variables import point_variable
from fittingpasts.words import MOST_DIGITS, is_name, is_value

MOST_STATEMENTS = 3
# What each word behind the kind is. Where a word may be missing, None stands for it, and a minus sign in a text.
FORMS = {
    "apart": ("point", "point", "number or none", "number or none"),
    "onday": ("point", "number", "number"),
    "dated": ("point", "cycle", "place"),
    "long": ("cycle", "number", "number"),
    "whole": ("cycle", "cycle"),
    "present": ("person", "event"),
    "together": ("person", "person"),
    "heard": ("person", "point"),
    "told": ("person", "person", "event or none"),
    "began": ("person",),
    "rises": ("shelf", "mark"),
    "outranks": ("shelf", "mark", "mark"),
    "samerule": ("shelf", "shelf"),
    "astray": ("shelf", "roll or none"),
    "filed": ("shelf", "roll", "roll"),
    "piled": ("roll", "roll"),
}
NUMBERS = ("number", "number or none", "place")
MISSING = ("number or none", "event or none", "roll or none")


def _names_of(frame, form):
    """Return the sequence of the names that a word of this form may be in the frame."""
    if form == "person":
        return frame.people
    if form == "mark":
        return (*frame.marks, "age")
    if form == "cycle":
        return [cycle[0] for cycle in frame.cycles]
    if form == "shelf":
        return [shelf[0] for shelf in frame.shelves]
    return frame.events if form.startswith("event") else [roll[0] for roll in frame.rolls]


def _check_word(frame, form, word):
    """Raise an error if the frame does not have the point or the name for which a word stands."""
    if form == "point":
        point_variable(frame, word)
    elif word is not None and form not in NUMBERS and word not in _names_of(frame, form):
        raise UnknownName(word)


def _check_place(frame, cycle, place):
    """Raise an error if no cycle that the named one may be has the place."""
    for name, _, most in frame.cycles:
        if name == cycle and not 0 <= place < most:
            raise OutOfRange(place)


def check_statement(frame, statement):
    """Return None if the statement suits the frame; otherwise raise the first error in the order of its words."""
    words = statement.words
    for form, word in zip(FORMS[words[0]], words[1:]):
        _check_word(frame, form, word)
    if words[0] == "dated":
        _check_place(frame, words[2], words[3])


def check_paper(frame, paper):
    """Return None if the paper suits the frame; otherwise raise an error."""
    statements = statements_of(paper)
    if len(statements) == 0:
        raise EmptyClause()
    if len(statements) > MOST_STATEMENTS:
        raise TooMany(MOST_STATEMENTS)
    for statement in statements:
        check_statement(frame, statement)


def check_papers(frame, papers):
    """Raise an error for the first of the papers that does not suit the frame."""
    for paper in papers:
        check_paper(frame, paper)


def _is_word(form, word):
    """Return True if a word of a text has the form."""
    if word == "-":
        return form in MISSING
    if form in NUMBERS:
        return is_value(word, MOST_DIGITS)
    if form == "point" and word[-1:] in ("+", "-"):
        return is_name(word[:-1])
    return is_name(word)


def _meant(form, word):
    """Return for what a word of a text stands in the words of a statement."""
    if word == "-":
        return None
    return int(word) if form in NUMBERS else word


def parse_statement(text):
    """Return the statement whose text this is."""
    words = text.split(" ")
    positive = words[0] != "not"
    if not positive:
        words = words[1:]
    if words == [] or words[0] not in FORMS:
        raise InvalidText(text)
    kind, *rest = words
    forms = FORMS[kind]
    if len(rest) != len(forms) or not all([_is_word(form, word) for form, word in zip(forms, rest)]):
        raise InvalidText(text)
    return Statement((kind, *[_meant(form, word) for form, word in zip(forms, rest)]), positive)


def parse_paper(text):
    """Return the clause that the text writes."""
    parts = text.split(" or ")
    if len(parts) > MOST_STATEMENTS:
        raise InvalidText(text)
    statements = [parse_statement(part) for part in parts]
    return Clause(*statements)
