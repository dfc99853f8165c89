"""Tables of free days: a pattern, and rows that say otherwise of single stretches of days."""

from termcourt.errors import NoTable
from termcourt.patterns import Pattern
from termcourt.stretches import is_stretch_of, joined, overlay, place

MOST_ROWS = 12
MOST_ROW_DAYS = 40
WORDS = ("free", "open")


class Table:
    """Which days are free, and how the open ones are counted."""

    def __init__(self, week, yearly=None, rows=None):
        self.pattern = Pattern(week, list_or_empty(yearly))
        refuse_rows(list_or_empty(rows))
        self.rows = overlay(list_or_empty(rows))
        self.shifts = [0]
        for row in self.rows:
            self.shifts.append(self.shifts[-1] + self.shift(row, row[1] + 1))

    def shift(self, row, end):
        """How many open days more than the pattern the row has before the day end, fewer being below 0."""
        by_pattern = self.pattern.before(end) - self.pattern.before(row[0])
        by_row = end - row[0] if row[2] == "open" else 0
        return by_row - by_pattern

    def is_free(self, day):
        at = place(self.rows, day)
        if at < len(self.rows) and self.rows[at][0] <= day:
            return self.rows[at][2] == "free"
        return self.pattern.is_free(day)

    def before(self, day):
        at = place(self.rows, day)
        many = self.pattern.before(day) + self.shifts[at]
        if at < len(self.rows) and self.rows[at][0] < day:
            many += self.shift(self.rows[at], day)
        return many

    def nth(self, many):
        for at, row in enumerate(self.rows):
            before_row = self.before(row[0])
            if many < before_row:
                return self.pattern.nth(many - self.shifts[at])
            # Only an open row has days to be told here: behind a free one no more are counted than before it.
            if many < self.before(row[1] + 1):
                return row[0] + many - before_row
        return self.pattern.nth(many - self.shifts[-1])

    def next_open(self, day):
        return self.nth(self.before(day))

    def runs(self, first, last):
        return joined([(day, day, self.is_free(day)) for day in range(first, last + 1)])


def list_or_empty(things):
    return [] if things is None else things


def refuse_rows(rows):
    for at, row in enumerate(rows):
        if at == MOST_ROWS or not is_row(row):
            raise NoTable("rows", at)


def is_row(row):
    # The word may be of any kind, and only texts are compared.
    return is_stretch_of(row[0], row[1], MOST_ROW_DAYS) and isinstance(row[2], str) and row[2] in WORDS
