"""Kinds of counting: which days a term counts, and how many of them its units ask."""

DAYS_OF_A_WEEK = 7


class Counting:
    """Every day counts, and each unit asks one."""

    def __init__(self, table):
        self.table = table

    def days_for(self, units):
        return units

    def counts_day(self, day):
        return True

    def counted_in(self, first, last):
        return max(0, last - first + 1)

    def reach(self, first, many):
        return first + many - 1


class Weeks(Counting):
    """Every day counts, and each unit asks a week of them."""

    def days_for(self, units):
        return DAYS_OF_A_WEEK * units


class CourtDays(Counting):
    """The open days of the table count, and each unit asks one."""

    def counts_day(self, day):
        return not self.table.is_free(day)

    def counted_in(self, first, last):
        # Asked first, since last may be the day before day 0, and farther back.
        if last < first:
            return 0
        return self.table.before(last + 1) - self.table.before(first)

    def reach(self, first, many):
        return self.table.nth(self.table.before(first) + many - 1)


def kind_of(unit, table):
    if unit == "weeks":
        return Weeks(table)
    if unit == "court":
        return CourtDays(table)
    return Counting(table)
