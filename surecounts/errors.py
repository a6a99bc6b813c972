"""The errors of surecounts; each keeps the one value that it tells."""


class SureError(Exception):
    """The base class of the errors about things that are not what they should be."""


class InvalidTable(SureError):
    """A value is no table, no row of one, or a table of other sizes."""

    def __init__(self, value):
        self.value = value


class InvalidFact(SureError):
    """A where, a fact or a list of facts is none; place tells which one."""

    def __init__(self, place):
        self.place = place


class InvalidQuestion(SureError):
    """A value is no question, or a question of other sizes."""

    def __init__(self, value):
        self.value = value


class InvalidSpread(SureError):
    """A value is no spread, no part of one, or a spread of another size."""

    def __init__(self, value):
        self.value = value


class InvalidColumn(SureError):
    """A column is none, or does not fit; place tells which one."""

    def __init__(self, place):
        self.place = place


class InvalidChain(SureError):
    """A part of a chain is none, or does not join its neighbor; place tells which one."""

    def __init__(self, place):
        self.place = place


class InvalidMembers(SureError):
    """A value is no choice of members."""

    def __init__(self, value):
        self.value = value


class InvalidPlan(SureError):
    """A value is no plan."""

    def __init__(self, value):
        self.value = value


class InvalidText(SureError):
    """A text is not written as it should be; place tells where."""

    def __init__(self, place):
        self.place = place


class UnknownName(SureError):
    """A value is no name, or nothing is kept under it."""

    def __init__(self, name):
        self.name = name


class InvalidCommand(SureError):
    """A command is none; word is its first word, or None."""

    def __init__(self, word):
        self.word = word


class InvalidNumber(ValueError):
    """A value is not an integer that is allowed in its place."""

    def __init__(self, value):
        self.value = value


class LimitExceeded(OverflowError):
    """More would be needed than the limit allows."""

    def __init__(self, limit):
        self.limit = limit


class Contradictory(RuntimeError):
    """Nothing fits; part tells what already contradicts itself."""

    def __init__(self, part):
        self.part = part


class MissingRows(LookupError):
    """Rows are not there; number tells how many."""

    def __init__(self, number):
        self.number = number


class NothingToUndo(RuntimeError):
    """There is no change to take back."""

    def __init__(self, name):
        self.name = name
