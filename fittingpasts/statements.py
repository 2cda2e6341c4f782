"""Statements, which are true or false in a past, and clauses of them."""

from fittingpasts.meanings import is_said_rightly, spoken_of
from fittingpasts.variables import in_order


def statements_of(paper):
    """Return the list of the statements of a paper: of a clause, or of one statement alone."""
    return [paper] if isinstance(paper, Statement) else paper.statements()


def _joined(first, second):
    """Return the clause of the statements of two papers."""
    parts = [*statements_of(first), *statements_of(second)]
    return Clause(*parts)


def _text_words(statement):
    """Return the list of the words of the text of a statement."""
    words = ["-" if word is None else str(word) for word in statement.words]
    return words if statement.positive else ["not", *words]


class Statement:
    """The words of a statement, and whether it says that they are true."""

    def __init__(self, words, positive=True):
        self.words = tuple(words)
        self.positive = positive

    def __eq__(self, other):
        return isinstance(other, Statement) and self.words == other.words and self.positive == other.positive

    def __str__(self):
        return " ".join(_text_words(self))

    def __invert__(self):
        return Statement(self.words, not self.positive)

    def __or__(self, other):
        return _joined(self, other)

    def scope(self, frame):
        """Return the tuple of the variables of which the statement speaks."""
        return spoken_of(frame, self.words)

    def holds_with(self, frame, values):
        """Return True if the statement is true with these values of the variables of its scope."""
        chosen = dict(zip(self.scope(frame), values))
        return is_said_rightly(frame, self.words, chosen) == self.positive

    def holds(self, past):
        """Return True if the statement is true in the past."""
        return is_said_rightly(past.frame, self.words, past) == self.positive


class Apart(Statement):
    """The second point is at least `least` and at most `most` days later than the first."""

    def __init__(self, first, second, least=None, most=None):
        Statement.__init__(self, ("apart", first, second, least, most))


class OnDay(Statement):
    """The day of the point is from `first` to `last`."""

    def __init__(self, point, first, last):
        Statement.__init__(self, ("onday", point, first, last))


class Dated(Statement):
    """On the day of the point the cycle shows the place."""

    def __init__(self, point, cycle, place):
        Statement.__init__(self, ("dated", point, cycle, place))


class Long(Statement):
    """The length of the cycle is from `least` to `most`."""

    def __init__(self, cycle, least, most):
        Statement.__init__(self, ("long", cycle, least, most))


class Whole(Statement):
    """The inner cycle is whole in the outer one."""

    def __init__(self, inner, outer):
        Statement.__init__(self, ("whole", inner, outer))


class Present(Statement):
    """The person was in the house on the day of the event."""

    def __init__(self, person, event):
        Statement.__init__(self, ("present", person, event))


class Together(Statement):
    """The stays of two people have a common day."""

    def __init__(self, person, other):
        Statement.__init__(self, ("together", person, other))


class Heard(Statement):
    """The person had heard the news on the day of the point."""

    def __init__(self, person, point):
        Statement.__init__(self, ("heard", person, point))


class Told(Statement):
    """The hearer first heard the news from the teller, at the event if one is named."""

    def __init__(self, teller, hearer, event=None):
        Statement.__init__(self, ("told", teller, hearer, event))


class Began(Statement):
    """The person began the news."""

    def __init__(self, person):
        Statement.__init__(self, ("began", person))


class Rises(Statement):
    """In the rule of the shelf the mark ascends."""

    def __init__(self, shelf, mark):
        Statement.__init__(self, ("rises", shelf, mark))


class Outranks(Statement):
    """In the rule of the shelf the mark stands ahead of the other one."""

    def __init__(self, shelf, mark, other):
        Statement.__init__(self, ("outranks", shelf, mark, other))


class SameRule(Statement):
    """Two shelves have the same rule."""

    def __init__(self, shelf, other):
        Statement.__init__(self, ("samerule", shelf, other))


class Astray(Statement):
    """The roll is astray on the shelf; without a roll, some roll is."""

    def __init__(self, shelf, roll=None):
        Statement.__init__(self, ("astray", shelf, roll))


class Filed(Statement):
    """By the rule of the shelf the roll comes before the other one."""

    def __init__(self, shelf, roll, other):
        Statement.__init__(self, ("filed", shelf, roll, other))


class Piled(Statement):
    """The age of the lower roll is at most that of the upper one."""

    def __init__(self, lower, upper):
        Statement.__init__(self, ("piled", lower, upper))


class Clause:
    """Statements, at least one of which is true."""

    def __init__(self, *statements):
        self._statements = tuple(statements)

    def __eq__(self, other):
        return isinstance(other, Clause) and self._statements == other._statements

    def __len__(self):
        return len(self._statements)

    def __str__(self):
        return " or ".join([str(statement) for statement in self._statements])

    def __or__(self, other):
        return _joined(self, other)

    def statements(self):
        """Return the list of the statements."""
        return list(self._statements)

    def scope(self, frame):
        """Return the tuple of the variables of which the statements speak."""
        return in_order(frame, [variable for statement in self._statements for variable in statement.scope(frame)])

    def holds(self, past):
        """Return True if at least one of the statements is true in the past."""
        return any([statement.holds(past) for statement in self._statements])
