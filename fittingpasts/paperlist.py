"""Lists of numbered papers, whose changes can be taken back and made again."""

from fittingpasts.errors import NothingToRedo, NothingToUndo, OutOfRange, TooMany, UnknownPaper
from fittingpasts.reading import check_papers
from fittingpasts.statements import Clause, statements_of

FIRST_LIMIT = 8
GREATEST_LIMIT = 20


def _clause_of(paper):
    """Return the clause of the statements of a paper."""
    statements = statements_of(paper)
    return Clause(*statements)


class PaperList:
    """Numbered papers of a frame."""

    def __init__(self, frame):
        self.frame = frame
        self._papers = ()
        self._limit = FIRST_LIMIT
        self._next_number = 1
        # Changes that can be taken back, and those that can be made again, the latest one last:
        # pairs of what the papers and the limit were before the change and behind it.
        self._done = ()
        self._undone = ()

    @property
    def limit(self):
        """The greatest number of papers."""
        return self._limit

    @limit.setter
    def limit(self, value):
        self.set_limit(value)

    @property
    def size(self):
        """The number of papers."""
        return len(self._papers)

    @property
    def changes(self):
        """The number of changes that can be taken back."""
        return len(self._done)

    def _change(self, papers, limit):
        """Make a new change: these are the papers and the limit from now on."""
        self._done = (*self._done, ((self._papers, self._limit), (papers, limit)))
        self._undone = ()
        self._papers = papers
        self._limit = limit

    def check_entry(self, papers):
        """Raise an error if the papers do not suit the frame, or are too many."""
        check_papers(self.frame, papers)
        if self.size + len(papers) > self._limit:
            raise TooMany(self._limit)

    def enter(self, *papers):
        """Keep the papers, and return the list of their numbers."""
        self.check_entry(papers)
        numbers = [self._next_number + at for at in range(len(papers))]
        if numbers:
            entered = [(number, _clause_of(paper)) for number, paper in zip(numbers, papers)]
            self._change((*self._papers, *entered), self._limit)
            self._next_number += len(numbers)
        return numbers

    def withdraw(self, number):
        """Take the paper with this number out, and return it as a clause."""
        clause = self.found(number)
        self._change(tuple([pair for pair in self._papers if pair[0] != number]), self._limit)
        return clause

    def listed(self):
        """Return the list of the pairs of the numbers and the clauses, ascending by the numbers."""
        return list(self._papers)

    def found(self, number):
        """Return the clause with this number."""
        for known, clause in self._papers:
            if known == number:
                return clause
        raise UnknownPaper(number)

    def set_limit(self, value):
        """Set the greatest number of papers."""
        if not 1 <= value <= GREATEST_LIMIT or value < self.size:
            raise OutOfRange(value)
        self._change(self._papers, value)

    def undo(self):
        """Take back the latest change that was not taken back."""
        if self._done == ():
            raise NothingToUndo()
        *done, change = self._done
        self._done = tuple(done)
        self._undone = (*self._undone, change)
        self._papers, self._limit = change[0]

    def redo(self):
        """Make the change that was taken back last again."""
        if self._undone == ():
            raise NothingToRedo()
        *undone, change = self._undone
        self._undone = tuple(undone)
        self._done = (*self._done, change)
        self._papers, self._limit = change[1]

    def skip_to(self, number):
        """Let this be the number of the next paper; it is greater than all that were given."""
        self._next_number = number

    def take_over(self, other, next_number):
        """Take over the papers and the limit of another list; nothing is to be undone then."""
        self._papers = tuple(other.listed())
        self._limit = other.limit
        self._next_number = next_number
        self._done = ()
        self._undone = ()

    def twin(self):
        """Return an independent list with the same papers, numbers and limit."""
        twin = PaperList(self.frame)
        twin.take_over(self, self._next_number)
        return twin
