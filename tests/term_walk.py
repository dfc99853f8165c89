"""A term by the words of [17] to [21], day after day.

This is what the program's short reckoning is held against, so nothing of the program is used here.
The table is handed in as free, a function that tells of a day whether it is free.
"""

import itertools

DAYS_OF_A_UNIT = {"days": 1, "weeks": 7, "court": 1}


def counts(unit, free, day):
    return unit != "court" or not free(day)


def stands_still(pauses, day):
    return any(first <= day and (last is None or day <= last) for first, last in pauses)


def stands_still_for_ever(pauses, day):
    return any(first <= day and last is None for first, last in pauses)


def walk(unit, start, units, pauses, free):
    """The full day, the last day (None where there is none), and the word of each day behind the start to the last."""
    left = DAYS_OF_A_UNIT[unit] * units
    full = None
    words = []
    for day in itertools.count(start + 1):
        if stands_still_for_ever(pauses, day):
            return full, None, []
        if stands_still(pauses, day):
            words.append("still")
            continue
        if full is not None:
            words.append("waits")
        elif counts(unit, free, day):
            words.append("counts")
            left -= 1
            if left == 0:
                full = day
        else:
            words.append("free")
        if full is not None and not free(day):
            return full, day, words


def marks(start, words):
    """Words of days one after another, as stretches."""
    told = []
    first = start + 1
    for word, group in itertools.groupby(words):
        last = first + len(list(group)) - 1
        told.append((first, last, word))
        first = last + 1
    return told
