"""Dates as they are written: YEAR-WEEK-DAY."""

from termcourt.days import date_of, day_of
from termcourt.errors import NoDay
from termcourt.figures import is_written_number

MOST_FIGURES = 60


def show_date(day):
    return "-".join([str(number) for number in date_of(day)])


def read_date(text):
    if not isinstance(text, str):
        raise NoDay("a date is read from a text")
    parts = text.split("-")
    if len(parts) != 3 or not all([is_written_number(part, MOST_FIGURES) for part in parts]):
        raise NoDay("the text writes no date")
    return day_of(int(parts[0]), int(parts[1]), int(parts[2]))
