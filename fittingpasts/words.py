"""What several modules ask of names, numbers in texts, lists of names, and what they are given."""

from fittingpasts.errors import Duplicate, TooMany, UnknownName

LETTERS = "abcdefghijklmnopqrstuvwxyz"
DIGITS = "0123456789"
MOST_DIGITS = 18


def is_name(text):
    """Return True if the string is a name: 1 to 8 small letters, but not the word that joins statements."""
    return 1 <= len(text) <= 8 and text != "or" and all([letter in LETTERS for letter in text])


def is_number(text, most):
    """Return True if the string has 1 to `most` digits, and no leading zero."""
    if not 1 <= len(text) <= most or not all([digit in DIGITS for digit in text]):
        return False
    return text == "0" or text[0] != "0"


def is_value(text, most):
    """Return True if the string is a number of at most so many digits; a minus sign may stand ahead of it."""
    if text.startswith("-"):
        return is_number(text[1:], most) and text != "-0"
    return is_number(text, most)


def check_names(names, most):
    """Raise an error if the tuple has more than `most` names, or one of them twice."""
    if len(names) > most:
        raise TooMany(most)
    for at, name in enumerate(names):
        if name in names[:at]:
            raise Duplicate(name)


def check_known(names, known):
    """Raise an error for the first of the names that is not one of the known ones."""
    for name in names:
        if name not in known:
            raise UnknownName(name)


def as_tuples(value):
    """Return the value with tuples in the place of sequences, also of those inside of sequences."""
    if isinstance(value, (list, tuple)):
        return tuple([as_tuples(part) for part in value])
    return value
