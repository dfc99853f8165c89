"""Units, starts and pauses that several tests hand in."""

import random

UNITS = ("days", "weeks", "court")


def shifted(pauses, move):
    return [(first + move, None if last is None else last + move) for first, last in pauses]


def some_pauses(chance, start):
    """Pauses around a start: earlier, on it, right behind it, far behind, touching, and at times for ever."""
    pauses = []
    first = max(0, start + chance.choice([-30, -3, -1, 0, 1, 2, 5, 20]))
    for turn in range(chance.randint(0, 6)):
        last = first + chance.choice([0, 0, 1, 2, 6, 7, 30, 400])
        pauses.append((first, last))
        # Where it is one day behind the last one, the two touch.
        first = last + chance.choice([1, 1, 2, 3, 8, 25])
    if chance.randint(0, 2) == 0:
        pauses.append((first, None))
    return pauses


def some_terms(seed, turns):
    """Tuples (start, units, pauses), by chance, the same each time."""
    chance = random.Random(seed)
    terms = []
    for turn in range(turns):
        start = chance.choice([0, 1, 4, 360, 370, 371, 6200, 6208, chance.randint(0, 6300)])
        terms.append((start, chance.choice([1, 1, 2, 3, 5, 7, 14, 40]), some_pauses(chance, start)))
    return terms
