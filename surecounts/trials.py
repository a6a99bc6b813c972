"""Trials: at the end of each, what was there at its beginning is there again."""


class Held:
    """A value that is held until another one is put in its place, or a trial ends that it is in.

    The value itself is never changed. An ended trial takes nothing back by itself, as many values may be in it: the
    value that was held at its beginning is found the next time that one asks.
    """

    def __init__(self, value):
        self._value = value
        self._marks = ()

    def current(self):
        """The value that is held now."""
        # A trial that began within another one has ended with it, so that the first one counts.
        for trial, value in self._marks:
            if trial.ended:
                return value
        return self._value

    def put(self, value):
        """Holds another value."""
        self._marks = tuple([mark for mark in self._marks if not mark[0].ended])
        self._value = value

    def mark(self, trial):
        """Keeps the value of now for the end of a trial."""
        value = self.current()
        self.put(value)
        self._marks += ((trial, value),)


class Trial:
    """For one with: gives a book or a bench, and at the end all that it holds is as it was at the beginning."""

    def __init__(self, given):
        self._given = given
        self.ended = False

    def __enter__(self):
        for held in self._given.all_held():
            held.mark(self)
        return self._given

    def __exit__(self, kind, value, trace):
        self.ended = True
