"""Dates as they are written: YEAR-WEEK-DAY."""

from termcourt.days import date_of, day_of
from termcourt.errors import NoDay

MOST_FIGURES = 60


def show_date(day):
    return "-".join([str(number) for number in date_of(day)])


def read_date(text):
    if not isinstance(text, str):
        raise NoDay("a date is read from a text")
    parts = text.split("-")
    if len(parts) != 3 or not all([is_written_number(part) for part in parts]):
        raise NoDay("the text writes no date")
    return day_of(int(parts[0]), int(parts[1]), int(parts[2]))


def is_written_number(text):
    # The length goes first, so that int is asked for no number of some thousands of figures.
    if not 1 <= len(text) <= MOST_FIGURES:
        return False
    # int would take signs, blanks and underscores, too.
    if not all([is_figure(sign) for sign in text]):
        return False
    return text == "0" or not text.startswith("0")


def is_figure(sign):
    # isdigit would take figures beyond 0 to 9.
    return "0" <= sign <= "9"
