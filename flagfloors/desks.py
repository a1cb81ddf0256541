"""A desk, on which a pattern is changed by deeds that can be taken back."""

from flagfloors.deeds import done
from flagfloors.errors import FlagError, NotDone, NothingLeft, TooMany
from flagfloors.patterns import check_pattern

MOST_KEPT = 100


class Desk:
    """A pattern that is changed by deeds.

    Beside each deed that can be taken back stands the pattern ahead of it, and beside each
    one that was taken back the pattern behind it. The deeds that come last stand last in
    their list: those to take back, and those to do again.
    """

    def __init__(self, pattern, *, most=20):
        check_pattern(pattern)
        if most > MOST_KEPT:
            raise TooMany(MOST_KEPT)
        self.pattern = pattern
        self.most = most
        self._kept = []
        self._taken = []

    def do(self, deed):
        """Do a deed."""
        after = done(self.pattern, deed)
        self._kept.append((deed, self.pattern))
        if len(self._kept) > self.most:
            del self._kept[0]
        self._taken = []
        self.pattern = after

    def undo(self):
        """Go back to the pattern ahead of the last deed."""
        if not self._kept:
            raise NothingLeft("no deed can be taken back")
        deed, before = self._kept.pop()
        self._taken.append((deed, self.pattern))
        self.pattern = before

    def redo(self):
        """Do the deed again that was taken back last."""
        if not self._taken:
            raise NothingLeft("no deed was taken back")
        deed, after = self._taken.pop()
        self._kept.append((deed, self.pattern))
        self.pattern = after

    def past(self):
        """Return the kept deeds that are not taken back, the eldest one first."""
        return tuple([deed for deed, _ in self._kept])

    def ahead(self):
        """Return the deeds that were taken back, the one to do again next first."""
        return tuple([deed for deed, _ in self._taken[::-1]])

    def run(self, deeds):
        """Do all deeds one after another, or none of them, and return their number."""
        other = self.twin()
        for place, deed in enumerate(deeds):
            try:
                other.do(deed)
            except FlagError as error:
                raise NotDone(place) from error
        self.pattern = other.pattern
        self._kept = other._kept
        self._taken = other._taken
        return len(deeds)

    def twin(self):
        """Return another desk that is as this one is now."""
        other = Desk(self.pattern, most=self.most)
        other._kept = list(self._kept)
        other._taken = list(self._taken)
        return other

    def trial(self):
        """Return an object for a with statement that gives a twin of this desk."""
        return Trial(self)


class Trial:
    """What gives a twin of a desk to try deeds on, for a with statement."""

    def __init__(self, desk):
        self.desk = desk

    def __enter__(self):
        """Return a twin of the desk."""
        return self.desk.twin()

    def __exit__(self, kind, value, trace):
        """Let errors pass."""
        return False
