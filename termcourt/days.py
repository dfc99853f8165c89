"""Days, weeks and years by their numbers, and the dates of days."""

from termcourt.errors import NoDay
from termcourt.wholes import is_whole


def is_long(year):
    return 3 * year % 17 < 3


def long_before(year):
    # A year y is long just where 3 * y // 17 is greater than 3 * (y - 1) // 17,
    # so those before year are 3 * (year - 1) // 17 + 1, written here as one fraction.
    return (3 * year + 14) // 17


def first_week(year):
    return 52 * year + long_before(year)


def year_of(week):
    # first_week(year) is (887 * year + 14) // 17 in one fraction;
    # this is the greatest year for which that is not above week.
    return (17 * week + 2) // 887


def weeks_in(year):
    return 53 if is_long(year) else 52


def day_of(year, week, day):
    if not is_date(year, week, day):
        raise NoDay("there is no such date")
    return 7 * (first_week(year) + week - 1) + day - 1


def is_date(year, week, day):
    if not (is_whole(year) and is_whole(week) and is_whole(day)):
        return False
    return year >= 0 and 1 <= week <= weeks_in(year) and 1 <= day <= 7


def date_of(day):
    day_in_week = weekday(day)
    week = day // 7
    year = year_of(week)
    return (year, week - first_week(year) + 1, day_in_week)


def weekday(day):
    if not (is_whole(day) and day >= 0):
        raise NoDay("there is no such day")
    return day % 7 + 1
