"""Patterns of free days: the same weekdays each week, the same stretches each year."""

from termcourt.days import date_of, first_week, long_before, year_of
from termcourt.errors import NoTable
from termcourt.stretches import is_stretch_of
from termcourt.wholes import is_whole

MOST_WEEKDAYS = 6
MOST_YEARLY = 4
MOST_YEARLY_DAYS = 30
# A short year has no later days of the year than these, so what is yearly lies in every year alike.
SHORT_YEAR = 364
LONG_YEAR = 371
# The years after which long and short ones come again in the same order.
TURN = 17


class Pattern:
    """Which days are free by their weekday or by their day of the year."""

    def __init__(self, week, yearly):
        refuse_week(week)
        refuse_yearly(yearly)
        # Every year begins with a week, so the day of the year tells the weekday, too:
        # one year laid out says all of every year.
        self.free_days = [is_free_within(within, week, yearly) for within in range(LONG_YEAR)]
        self.open_days = [within for within in range(LONG_YEAR) if not self.free_days[within]]
        self.open_before = counted_up(self.free_days)

    def is_free(self, day):
        return self.free_days[day_of_year(day)]

    def before(self, day):
        year = year_of(day // 7)
        return self.before_year(year) + self.open_before[day_of_year(day)]

    def before_year(self, year):
        in_last_week = self.open_before[LONG_YEAR] - self.open_before[SHORT_YEAR]
        return year * self.open_before[SHORT_YEAR] + long_before(year) * in_last_week

    def nth(self, many):
        year = self.year_with(many)
        return 7 * first_week(year) + self.open_days[many - self.before_year(year)]

    def year_with(self, many):
        """The year in which the open day lies that has so many open days before it."""
        # Every turn of years has as many open days, so whole turns are leapt over.
        year = TURN * (many // self.before_year(TURN))
        while self.before_year(year + 1) <= many:
            year += 1
        return year


def day_of_year(day):
    date = date_of(day)
    return 7 * (date[1] - 1) + date[2] - 1


def is_free_within(within, week, yearly):
    """Whether a day of the year is free."""
    return within % 7 + 1 in week or any([first <= within <= last for first, last in yearly])


def counted_up(free_days):
    """How many open days there are before each day, and behind them the number of all."""
    counts = [0]
    for free in free_days:
        counts.append(counts[-1] if free else counts[-1] + 1)
    return counts


def refuse_week(week):
    for at, thing in enumerate(week):
        if at == MOST_WEEKDAYS or not is_weekday(thing) or thing in week[:at]:
            raise NoTable("week", at)


def is_weekday(thing):
    return is_whole(thing) and 1 <= thing <= 7


def refuse_yearly(yearly):
    for at, thing in enumerate(yearly):
        if at == MOST_YEARLY or not is_yearly(thing):
            raise NoTable("yearly", at)


def is_yearly(thing):
    if not (isinstance(thing, tuple) and len(thing) == 2):
        return False
    return is_stretch_of(thing[0], thing[1], MOST_YEARLY_DAYS) and thing[1] < SHORT_YEAR
