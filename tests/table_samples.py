"""Weeks, yearly stretches and rows that several tests hand in: those that are taken and those that are not."""

import random

from samples import not_wholes, written

TURN = 6209
BIG = TURN * written(56)
HUGE = TURN * written(295)
# The multiples of seventeen years by which days are moved: up to sixty figures, and up to three hundred.
MOVES = (0, TURN, 1000 * TURN, TURN * written(20), BIG, HUGE)

PATTERNS = (
    ([], []),
    ([6, 7], []),
    ([7, 6], [(0, 2), (180, 209), (350, 363)]),
    ([1], [(0, 0)]),
    ([], [(363, 363)]),
    ([], [(0, 29), (30, 59), (60, 89), (334, 363)]),
    ([3], [(10, 20), (15, 25), (15, 25), (26, 30)]),
    ([1, 2, 3, 4, 5, 6], []),
    ([7, 5, 3, 1, 2, 4], [(0, 29), (100, 129), (200, 229), (334, 363)]),
    ([2, 3, 4, 5, 6, 7], [(0, 29), (29, 58), (59, 88), (363, 363)]),
)
ROWS = (
    [],
    [(0, 0, "free")],
    [(0, 39, "free")],
    [(0, 39, "open"), (5, 9, "free"), (7, 7, "open")],
    [(360, 399, "free"), (370, 371, "open")],
    [(370, 370, "open"), (371, 371, "free"), (372, 372, "open"), (373, 373, "open")],
    [(6200, 6220, "free"), (6205, 6212, "open"), (6208, 6208, "free"), (6209, 6209, "free")],
    [(k * 40, k * 40 + 39, "free") for k in range(12)],
    [(k * 40, k * 40 + 39, "open") for k in range(11, -1, -1)],
    [(700 - 3 * k, 700 + 3 * k, "free" if k % 2 else "open") for k in range(6, 0, -1)] * 2,
    [(500, 539, "free"), (500, 539, "open"), (510, 512, "free"), (500, 539, "free")],
    [(6, 12, "open"), (13, 20, "free"), (371, 377, "open"), (735, 741, "free"), (2184, 2190, "open")],
)


def some_tables():
    """Tuples (week, yearly, rows), made anew for each asker: those above, and some by chance, the same each time."""
    tables = [(list(week), list(yearly), list(ROWS[k % len(ROWS)])) for k, (week, yearly) in enumerate(PATTERNS)]
    tables += [([6, 7], [(100, 110)], list(rows)) for rows in ROWS]
    chance = random.Random(15)
    for turn in range(30):
        week = chance.sample(range(1, 8), chance.randint(0, 6))
        yearly = [some_stretch(chance, 363, 30) for k in range(chance.randint(0, 4))]
        most = chance.choice([60, 800, 6300])
        rows = [some_row(chance, most) for k in range(chance.randint(0, 12))]
        tables.append((week, yearly, rows))
    return tables


def some_stretch(chance, most, longest):
    first = chance.randint(0, most)
    return (first, min(most, first + chance.randint(0, longest - 1)))


def some_row(chance, most):
    return some_stretch(chance, most, 40) + (chance.choice(["free", "open"]),)


def moved(rows, move):
    return [(first + move, last + move, word) for first, last, word in rows]


def bad_weeks():
    """Tuples (week, at)."""
    cases = [
        ([0], 0), ([8], 0), ([-1], 0), ([-7], 0), ([10 ** 60], 0), ([-10 ** 299], 0),
        ([1, 0], 1), ([1, 2, 8], 2), ([7, 6, 5, -1], 3),
        ([1, 1], 1), ([7, 1, 7], 2), ([1, 2, 3, 4, 5, 5], 5), ([6, 5, 4, 3, 2, 6], 5),
        ([1, 2, 3, 4, 5, 6, 7], 6), ([7, 6, 5, 4, 3, 2, 1], 6), ([1, 2, 3, 4, 5, 6, 1], 6), ([1, 2, 3, 4, 5, 6, 8], 6),
        ([1, 2, 3, 4, 5, 6, None], 6), ([1, 2, 3, 4, 5, 6, 7, 0], 6), ([1, 1, 2, 3, 4, 5, 6, 7], 1),
        ([0, 8], 0), ([1, 0, 8], 1), ([1, 1, 0], 1), ([1, 0, 1], 1), ([None, 8], 0), ([8, None], 0), ([1, True], 1),
    ]
    for thing in not_wholes():
        cases += [([thing], 0), ([7, thing], 1), ([7, 6, 5, 4, 3, thing], 5), ([2, thing, 0, 2], 1)]
    return cases


def bad_yearlies():
    """Tuples (yearly, at)."""
    bad = [
        (1, 0), (5, 4), (363, 0), (0, -1),
        (-1, 3), (-1, -1), (-3, -1), (-30, -1), (-1, 0), (-10 ** 60, 0), (-10 ** 60, -10 ** 60),
        (364, 364), (363, 364), (360, 370), (335, 364), (364, 370), (370, 370), (371, 371), (10 ** 60, 10 ** 60),
        (0, 30), (1, 31), (100, 130), (333, 363), (0, 363), (0, 10 ** 60), (-10 ** 299, 10 ** 299),
    ]
    for thing in not_wholes():
        bad += [(thing, 5), (5, thing), (thing, thing)]
    cases = []
    for stretch in bad:
        cases += [([stretch], 0), ([(0, 3), stretch], 1), ([(0, 3), (3, 4), (0, 3), stretch], 3)]
        cases += [([stretch, (5, 4)], 0), ([(0, 3), stretch, (None, 0), (0, 1), (0, 1)], 1)]
    fifth = [(0, 0), (10, 12), (20, 49), (363, 363)]
    for stretch in [(5, 5), (0, 0)] + bad:
        cases.append((fifth + [stretch], 4))
    cases += [(fifth + [(5, 5), (6, 6)], 4), ([(0, 0)] * 5, 4), ([(0, 0)] * 400, 4)]
    return cases


def bad_rows():
    """Tuples (rows, at)."""
    bad = [
        (1, 0, "free"), (10 ** 60, 10 ** 60 - 1, "open"), (0, -1, "free"), (41, 0, "open"),
        (-1, 3, "free"), (-1, -1, "open"), (-5, -3, "free"), (-10 ** 60, 0, "free"), (-1, 0, "open"),
        (0, 40, "free"), (1, 41, "open"), (10 ** 60, 10 ** 60 + 40, "free"), (0, 10 ** 299, "open"),
        (5, 5, "Free"), (5, 5, "OPEN"), (5, 5, "free "), (5, 5, " open"), (5, 5, "shut"), (5, 5, "freeopen"),
        (5, 5, ""), (5, 5, "f"), (5, 5, "free\n"), (5, 5, 0), (5, 5, 10 ** 60),
        (5, 5, ["free"]), (5, 5, ("free",)), (5, 5, ("free", "open")), (5, 5, {"free": 1}), (5, 5, b"free"),
    ]
    for thing in not_wholes():
        bad += [(thing, 5, "free"), (5, thing, "open"), (thing, thing, "free"), (5, 5, thing), (thing, thing, thing)]
    cases = []
    for row in bad:
        cases += [([row], 0), ([(0, 3, "free"), row], 1), ([(0, 3, "free")] * 11 + [row], 11)]
        cases += [([row, (5, 4, "free")], 0), ([(0, 3, "open"), row, (5, 5, "shut")], 1)]
    taken = [(50 * k, 50 * k + 39, "free") for k in range(12)]
    for row in [(5, 5, "open"), (0, 39, "free")] + bad:
        cases.append((taken + [row], 12))
    cases += [(taken + [(1, 1, "free"), (2, 2, "free")], 12), ([(0, 0, "open")] * 13, 12), ([(0, 0, "open")] * 500, 12)]
    return cases
