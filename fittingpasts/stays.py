"""Stays: stretches of days, from the day of coming to the day of going."""

from fittingpasts.errors import EmptyStay, NoCommonDay, NoDays


class Stay:
    """The days from `come` to `go`, both included."""

    def __init__(self, come, go):
        if go < come:
            raise EmptyStay(come, go)
        self.come = come
        self.go = go

    def __eq__(self, other):
        return isinstance(other, Stay) and self.come == other.come and self.go == other.go

    def __str__(self):
        return f"{self.come}..{self.go}"

    def __contains__(self, day):
        return self.come <= day <= self.go

    def __add__(self, many):
        return Stay(self.come + many, self.go + many)

    def __sub__(self, many):
        return Stay(self.come - many, self.go - many)

    def __and__(self, other):
        """Return the stay of the common days; raise NoCommonDay if there is none."""
        come = max(self.come, other.come)
        go = min(self.go, other.go)
        if go < come:
            raise NoCommonDay(come - go)
        return Stay(come, go)

    def __or__(self, other):
        """Return the least stay that has all days of both."""
        return Stay(min(self.come, other.come), max(self.go, other.go))

    @property
    def width(self):
        """The number of days."""
        return self.go - self.come + 1

    def meets(self, other):
        """Return True if the stays have a common day."""
        return self.come <= other.go and other.come <= self.go

    def within(self, other):
        """Return True if `other` has all days of this stay."""
        return other.come <= self.come and self.go <= other.go

    def crosses(self, other):
        """Return True if the stays meet and neither is within the other."""
        return self.meets(other) and not self.within(other) and not other.within(self)

    def parts_without(self, other):
        """Return the list of the longest stays that have only days of this stay that `other` does not have."""
        if not self.meets(other):
            return [Stay(self.come, self.go)]
        parts = []
        if self.come < other.come:
            parts.append(Stay(self.come, other.come - 1))
        if other.go < self.go:
            parts.append(Stay(other.go + 1, self.go))
        return parts

    @staticmethod
    def around(days):
        """Return the least stay that has all the days."""
        if len(days) == 0:
            raise NoDays()
        return Stay(min(days), max(days))
