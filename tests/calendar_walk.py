"""Days by the words of [5] to [7] and [12] to [16], year after year and day after day.

This is what the program's short reckoning is held against, so nothing of the program is used here.
"""

import functools

LONG_OF_SEVENTEEN = (0, 6, 12)
DAYS_OF_SEVENTEEN = 6209


def days_in(year):
    return 7 * 53 if year % 17 in LONG_OF_SEVENTEEN else 7 * 52


def day_of_year(day):
    """The day of the year of a day of any size: whole turns of seventeen years are left out."""
    within = day % DAYS_OF_SEVENTEEN
    year = 0
    while within >= days_in(year):
        within -= days_in(year)
        year += 1
    return within


def is_free(day, week, yearly, rows=()):
    for first, last, word in reversed(list(rows)):
        if first <= day <= last:
            return word == "free"
    return day % 7 + 1 in week or any(first <= day_of_year(day) <= last for first, last in yearly)


def free_by(week, yearly, rows=()):
    """Whether days are free by one table, to be asked again and again: what was found is kept."""
    return functools.lru_cache(maxsize=None)(lambda day: is_free(day, week, yearly, rows))


def runs(first, last, week, yearly, rows=()):
    told = []
    for day in range(first, last + 1):
        free = is_free(day, week, yearly, rows)
        if told and told[-1][2] == free:
            told[-1] = (told[-1][0], day, free)
        else:
            told.append((day, day, free))
    return told
