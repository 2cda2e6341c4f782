"""The desk: papers that fit together, and what was asked of them."""

from fittingpasts.closing import close
from fittingpasts.conflicts import conflict
from fittingpasts.deciding import Decider
from fittingpasts.errors import Contradiction
from fittingpasts.paperlist import PaperList
from fittingpasts.reading import check_statement
from fittingpasts.statements import Statement
from fittingpasts.variables import variables
from fittingpasts.verdicts import verdict


class Desk(PaperList):
    """A list of papers that some past fits at any time."""

    def __init__(self, frame):
        PaperList.__init__(self, frame)
        Decider(frame, ()).check_fitting()
        self._questions = ()

    def _clauses(self):
        """Return the list of the papers in the order of their numbers."""
        return [clause for _, clause in self.listed()]

    def _check_together(self, papers):
        """Raise an error if no past fits the kept papers and the new ones."""
        every = [*self._clauses(), *papers]
        decider = Decider(self.frame, every)
        if decider.fitting() is None:
            numbers = [number for number, _ in self.listed()]
            against = [numbers[at] for at in conflict(self.frame, every) if at < len(numbers)]
            raise Contradiction(tuple(against), decider.refuting())

    def enter(self, *papers):
        """Keep the papers, and return the list of their numbers; raise Contradiction if no past fits them all."""
        self.check_entry(papers)
        if papers:
            self._check_together(papers)
        return super().enter(*papers)

    def twin(self):
        """Return an independent desk with the same papers, numbers and limit, and without questions."""
        twin = Desk(self.frame)
        twin.take_over(self, self._next_number)
        return twin

    def closed(self):
        """Return the closed lot for the papers."""
        return close(self.frame, self._clauses())

    def word_on(self, claim):
        """Return the word of the verdict on the claim."""
        check_statement(self.frame, claim)
        return Decider(self.frame, self._clauses()).word_on(claim)

    def ask(self, claim):
        """Return the verdict on the claim, and keep the question."""
        found = verdict(self.frame, self._clauses(), claim)
        self._questions = (*self._questions, (Statement(claim.words, claim.positive), str(claim), found.word))
        return found

    def asked(self):
        """Return the list of the pairs of the text and the word of all questions."""
        return [(text, word) for _, text, word in self._questions]

    def news(self):
        """Return the list of the pairs of a variable and the tuple of the values that the papers take from it."""
        before, behind = close(self.frame), self.closed()
        return [
            (variable, tuple([value for value in row if value not in left]))
            for variable, row, left in zip(variables(self.frame), before.rows, behind.rows)
            if len(left) < len(row)
        ]

    def reopened(self, *numbers):
        """Return the list of the indexes of the questions on which the word is another one without these papers."""
        for number in numbers:
            self.found(number)
        papers = [clause for number, clause in self.listed() if number not in numbers]
        decider = Decider(self.frame, papers)
        return [at for at, (claim, _, word) in enumerate(self._questions) if decider.word_on(claim) != word]

    def suppose(self, deed, *papers):
        """Return what the deed returns with the papers entered; the desk is as before then, whatever the deed did."""
        kept_papers = self._papers
        kept_limit = self._limit
        kept_number = self._next_number
        kept_done = self._done
        kept_undone = self._undone
        kept_questions = self._questions
        self.enter(*papers)
        try:
            return deed(self)
        finally:
            self._papers = kept_papers
            self._limit = kept_limit
            self._next_number = kept_number
            self._done = kept_done
            self._undone = kept_undone
            self._questions = kept_questions
