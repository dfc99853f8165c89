"""The refusals. Each stands right under CourtError, so that none is taken for another one.

A refusal keeps lists of its own: what becomes of the list it was made with does not change it.
"""


class CourtError(ValueError):
    """Any refusal."""


class NoDay(CourtError):
    """A day or a date that is not there."""


class NoName(CourtError):
    """What is no name where a name is asked."""


class Full(CourtError):
    """One act more than may stand."""


class NoTable(CourtError):
    """A part of a table that is not as told, and the place in it."""

    def __init__(self, part, at):
        CourtError.__init__(self, part, at)
        self.part = part
        self.at = at


class NoRule(CourtError):
    """A row of a book that is none."""

    def __init__(self, at):
        CourtError.__init__(self, at)
        self.at = at


class NoTerm(CourtError):
    """A name that is no term's."""

    def __init__(self, name):
        CourtError.__init__(self, name)
        self.name = name


class Unfit(CourtError):
    """A row of a book that does not fit the rows beside it."""

    def __init__(self, at):
        CourtError.__init__(self, at)
        self.at = at


class Ring(CourtError):
    """Terms that hang on one another, the last on the first."""

    def __init__(self, names):
        CourtError.__init__(self, list(names))
        self.names = list(names)


class Twice(CourtError):
    """A name that is taken already."""

    def __init__(self, name):
        CourtError.__init__(self, name)
        self.name = name


class NoAct(CourtError):
    """A name by which no act stands."""

    def __init__(self, name):
        CourtError.__init__(self, name)
        self.name = name


class Parted(CourtError):
    """Terms of which more than one leads for a kind."""

    def __init__(self, kind, names):
        CourtError.__init__(self, kind, list(names))
        self.kind = kind
        self.names = list(names)


class Adrift(CourtError):
    """Terms due a kind, none of which leads for it."""

    def __init__(self, kind, names):
        CourtError.__init__(self, kind, list(names))
        self.kind = kind
        self.names = list(names)


class NoRow(CourtError):
    """A row of a table's text, or one told to a desk, that is none."""

    def __init__(self, at):
        CourtError.__init__(self, at)
        self.at = at
