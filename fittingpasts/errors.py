"""The errors of the program; each keeps what it is about in attributes."""


class ArchiveError(ValueError):
    """The base class of all errors of the program."""


class UnknownError(ArchiveError):
    """Something is asked for that does not exist."""


class TextError(ArchiveError):
    """A text does not have its form."""


class ImpossibleError(ArchiveError):
    """Something cannot be; the error has what shows this."""


class UnknownName(UnknownError):
    """There is nothing with this name."""

    def __init__(self, name):
        self.name = name


class UnknownVariable(UnknownError):
    """There is no such variable."""

    def __init__(self, variable):
        self.variable = variable


class UnknownTie(UnknownError):
    """There is no tie with this label."""

    def __init__(self, label):
        self.label = label


class UnknownPaper(UnknownError):
    """There is no paper with this number."""

    def __init__(self, number):
        self.number = number


class InvalidText(TextError):
    """The text does not have its form."""

    def __init__(self, text):
        self.text = text


class InvalidLine(TextError):
    """The line with this number is wrong."""

    def __init__(self, line):
        self.line = line


class Disjoint(ImpossibleError):
    """Two residues have no common day: the divisor of the lengths parts the places."""

    def __init__(self, divisor):
        self.divisor = divisor


class NoCompletion(ImpossibleError):
    """A network has no completion: the ring has a positive sum."""

    def __init__(self, ring):
        self.ring = ring


class RingFound(ImpossibleError):
    """Names would stand before themselves, along the ring."""

    def __init__(self, ring):
        self.ring = ring


class NoMoves(ImpossibleError):
    """No stack takes these three rolls, put in this order, from the last one to the second."""

    def __init__(self, low, middle, high):
        self.low = low
        self.middle = middle
        self.high = high


class NoStay(ImpossibleError):
    """No stay fits the notes; the bar shows it."""

    def __init__(self, bar):
        self.bar = bar


class NoWay(ImpossibleError):
    """No way leads to a person; the table is a border against this person."""

    def __init__(self, table):
        self.table = table


class NoRule(ImpossibleError):
    """No rule is possible; the table shuts each of them."""

    def __init__(self, table):
        self.table = table


class NoPast(ImpossibleError):
    """No past fits; the refutation shows it."""

    def __init__(self, refutation):
        self.refutation = refutation


class Contradiction(ImpossibleError):
    """New papers contradict the kept ones with these numbers."""

    def __init__(self, numbers, refutation):
        self.numbers = numbers
        self.refutation = refutation


class OutOfRange(ArchiveError):
    """A number lies outside of what is allowed."""

    def __init__(self, value):
        self.value = value


class TooMany(ArchiveError):
    """There are more than the most that is allowed."""

    def __init__(self, most):
        self.most = most


class Duplicate(ArchiveError):
    """The name occurred before."""

    def __init__(self, name):
        self.name = name


class InvalidName(ArchiveError):
    """The string is not a name."""

    def __init__(self, name):
        self.name = name


class InvalidCalendar(ArchiveError):
    """The triple at this index is not a cycle with a new name."""

    def __init__(self, at):
        self.at = at


class UnlikeNames(ArchiveError):
    """Two sequences of names do not suit each other."""


class UnfitLine(ArchiveError):
    """A tuple is not a line of the order, as its index shows."""

    def __init__(self, at):
        self.at = at


class BadMove(ArchiveError):
    """The move at this index cannot be made."""

    def __init__(self, at):
        self.at = at


class EmptyStay(ArchiveError):
    """A stay would end before it begins."""

    def __init__(self, come, go):
        self.come = come
        self.go = go


class NoCommonDay(ArchiveError):
    """Two stays have no common day; the gap lies between them."""

    def __init__(self, gap):
        self.gap = gap


class NoDays(ArchiveError):
    """There are no days."""


class Crossing(ArchiveError):
    """The stays at these indexes cross."""

    def __init__(self, first, second):
        self.first = first
        self.second = second


class InvalidMeeting(ArchiveError):
    """The meeting at this index is wrong."""

    def __init__(self, at):
        self.at = at


class InvalidSource(ArchiveError):
    """The source of this person is wrong."""

    def __init__(self, name):
        self.name = name


class NeverHeard(ArchiveError):
    """This person never heard the news."""

    def __init__(self, name):
        self.name = name


class InvalidRule(ArchiveError):
    """The term at this index is wrong."""

    def __init__(self, at):
        self.at = at


class NotSorted(ArchiveError):
    """A shelf is not sorted: the rolls at these indexes stand the wrong way round."""

    def __init__(self, first, second):
        self.first = first
        self.second = second


class InvalidFrame(ArchiveError):
    """This part of a frame is wrong."""

    def __init__(self, part):
        self.part = part


class InvalidPast(ArchiveError):
    """The value of this variable is none of its values."""

    def __init__(self, variable):
        self.variable = variable


class InvalidLot(ArchiveError):
    """A value that is passed for this variable is none of its values."""

    def __init__(self, variable):
        self.variable = variable


class UnlikeFrames(ArchiveError):
    """Two frames that should be equal are not."""


class EmptyClause(ArchiveError):
    """A clause has no statements."""


class NoQuestion(ArchiveError):
    """There are no claims to choose from."""


class NothingToUndo(ArchiveError):
    """There is no change that can be taken back."""


class NothingToRedo(ArchiveError):
    """There is no change that can be made again."""
