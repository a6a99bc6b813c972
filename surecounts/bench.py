"""The bench: books that are kept under names."""

from surecounts.books import Book
from surecounts.errors import LimitExceeded, UnknownName
from surecounts.trials import Held, Trial

MOST_BOOKS = 12
LONGEST_NAME = 8


def is_name(value):
    """Whether any value is a text of one to eight lowercase letters."""
    if not isinstance(value, str) or not 1 <= len(value) <= LONGEST_NAME:
        return False
    return all([letter in "abcdefghijklmnopqrstuvwxyz" for letter in value])


def check_name(value):
    """Raises UnknownName with any value that is not a name."""
    if not is_name(value):
        raise UnknownName(value)


class Bench:
    """At most twelve books, each under a name."""

    def __init__(self):
        # The dict that is held is never changed: another one takes its place.
        self._held = Held({})

    def keep(self, name, facts):
        """Keeps a new book under a name, in the place of an earlier one."""
        check_name(name)
        book = Book(facts)
        books = dict(self._held.current())
        books[name] = book
        if len(books) > MOST_BOOKS:
            raise LimitExceeded(MOST_BOOKS)
        self._held.put(books)

    def drop(self, name):
        """Keeps nothing under a name any more."""
        self._check_kept(name)
        books = self._held.current()
        self._held.put({other: books[other] for other in books if other != name})

    def book(self, name):
        """The book that is kept under a name, not a copy."""
        self._check_kept(name)
        return self._held.current()[name]

    def names(self):
        """The ascending list of the names."""
        return sorted(list(self._held.current()))

    def trial(self):
        """For one with: gives the bench, and at the end the same books are kept again, each as it was."""
        return Trial(self)

    def attempt(self, visitor):
        """What a function returns that is called with the bench; afterwards the bench and its books are as before."""
        with self.trial() as bench:
            return visitor(bench)

    def copy(self):
        """An independent bench with copies of the books."""
        books = self._held.current()
        other = Bench()
        other._held.put({name: books[name].copy() for name in books})
        return other

    def all_held(self):
        """The list of all that a trial of the bench brings back."""
        books = self._held.current()
        return [self._held] + [held for name in books for held in books[name].all_held()]

    def _check_kept(self, name):
        """Raises UnknownName with any value under which nothing is kept."""
        check_name(name)
        if name not in self._held.current():
            raise UnknownName(name)

    def __len__(self):
        return len(self._held.current())

    def __eq__(self, other):
        return isinstance(other, Bench) and self._held.current() == other._held.current()
