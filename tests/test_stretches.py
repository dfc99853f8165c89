"""Points [10] and [11]: stretches merged, rows laid over one another, the place of a day."""

import itertools
import random
import unittest

from limits import AtOnce
from samples import written
from termcourt.stretches import merged, overlay, place

BIG = written(60)
HUGE = written(299)


def days_of(stretches):
    return {day for first, last in stretches for day in range(first, last + 1)}


def merged_by_day(stretches):
    told = []
    for day in sorted(days_of(stretches)):
        if told and told[-1][1] == day - 1:
            told[-1] = (told[-1][0], day)
        else:
            told.append((day, day))
    return told


def words_of(rows):
    return {day: word for first, last, word in rows for day in range(first, last + 1)}


def overlay_by_day(rows):
    told = []
    words = words_of(rows)
    for day in sorted(words):
        if told and told[-1][1] == day - 1 and told[-1][2] == words[day]:
            told[-1] = (told[-1][0], day, words[day])
        else:
            told.append((day, day, words[day]))
    return told


def some_stretch(chance, least, most, longest):
    first = chance.randint(least, most)
    return (first, first + chance.randint(0, longest))


def some_row(chance, least, most, longest):
    return some_stretch(chance, least, most, longest) + (chance.choice(["free", "open"]),)


class Merged(AtOnce):
    def assert_merged(self, stretches, told):
        for order in itertools.permutations(stretches):
            handed = list(order)
            self.assertEqual(merged(handed), told)
            self.assertEqual(handed, list(order))

    def test_of_none(self):
        self.assertEqual(merged([]), [])

    def test_of_one(self):
        self.assert_merged([(3, 3)], [(3, 3)])
        self.assert_merged([(0, 0)], [(0, 0)])
        self.assert_merged([(3, 9)], [(3, 9)])

    def test_that_lie_apart(self):
        self.assert_merged([(1, 2), (4, 5)], [(1, 2), (4, 5)])
        self.assert_merged([(1, 1), (3, 3), (5, 5)], [(1, 1), (3, 3), (5, 5)])

    def test_that_touch(self):
        self.assert_merged([(1, 2), (3, 4)], [(1, 4)])
        self.assert_merged([(1, 1), (2, 2), (3, 3)], [(1, 3)])

    def test_that_overlap(self):
        self.assert_merged([(1, 5), (3, 8)], [(1, 8)])
        self.assert_merged([(1, 5), (5, 8)], [(1, 8)])
        self.assert_merged([(1, 3), (2, 6), (5, 9)], [(1, 9)])

    def test_one_within_the_other(self):
        self.assert_merged([(1, 9), (3, 4)], [(1, 9)])
        self.assert_merged([(1, 9), (1, 4)], [(1, 9)])
        self.assert_merged([(1, 9), (5, 9)], [(1, 9)])
        self.assert_merged([(1, 9), (2, 3), (10, 12)], [(1, 12)])
        self.assert_merged([(1, 9), (2, 3), (11, 12)], [(1, 9), (11, 12)])
        self.assert_merged([(1, 9), (2, 3), (5, 5)], [(1, 9)])

    def test_that_stand_there_twice(self):
        self.assert_merged([(1, 9), (1, 9)], [(1, 9)])
        self.assert_merged([(4, 4), (4, 4), (1, 2)], [(1, 2), (4, 4)])

    def test_days_below_0(self):
        self.assert_merged([(-5, -3)], [(-5, -3)])
        self.assert_merged([(-5, -1), (0, 4)], [(-5, 4)])
        self.assert_merged([(-5, -2), (0, 4)], [(-5, -2), (0, 4)])
        self.assert_merged([(-9, -9), (-8, -8), (-6, -6)], [(-9, -8), (-6, -6)])
        self.assert_merged([(-1, -1), (-10, 10)], [(-10, 10)])

    def test_of_any_number_of_days(self):
        for size in (BIG, HUGE):
            self.assert_merged([(-size, size), (0, 0)], [(-size, size)])
            self.assert_merged([(0, size), (size + 1, 2 * size)], [(0, 2 * size)])
            self.assert_merged([(0, size), (size + 2, 2 * size)], [(0, size), (size + 2, 2 * size)])
            self.assert_merged([(-2 * size, -size), (1 - size, 5)], [(-2 * size, 5)])
            self.assert_merged([(-2 * size, -size), (2 - size, 5)], [(-2 * size, -size), (2 - size, 5)])

    def test_against_counting_day_by_day(self):
        chance = random.Random(10)
        for turn in range(3000):
            stretches = [some_stretch(chance, -20, 20, 8) for k in range(chance.randint(0, 9))]
            self.assertEqual(merged(list(stretches)), merged_by_day(stretches), stretches)

    def test_all_small_ones_against_counting(self):
        small = [(first, last) for first in range(-2, 3) for last in range(first, 3)]
        for stretches in itertools.product(small, repeat=3):
            self.assertEqual(merged(list(stretches)), merged_by_day(stretches), stretches)

    def test_of_many(self):
        apart = [(3 * k, 3 * k + 1) for k in range(5000)]
        self.assertEqual(merged(list(reversed(apart))), apart)
        self.assertEqual(merged([(2 * k, 2 * k + 1) for k in range(5000)]), [(0, 9999)])

    def test_what_is_told_is_the_askers_own(self):
        handed = [(5, 9), (1, 2)]
        told = merged(handed)
        told.append((0, 0))
        told[0] = (7, 7)
        self.assertEqual(handed, [(5, 9), (1, 2)])
        self.assertEqual(merged(handed), [(1, 2), (5, 9)])
        self.assertIsNot(merged(handed), merged(handed))
        alone = [(1, 2)]
        self.assertIsNot(merged(alone), alone)
        none = []
        merged(none).append((1, 1))
        self.assertEqual(none, [])
        self.assertEqual(merged([]), [])

    def test_a_list_of_tuples(self):
        told = merged([(5, 9), (1, 2)])
        self.assertIs(type(told), list)
        self.assertEqual([type(stretch) for stretch in told], [tuple, tuple])

    def test_by_the_name_of_the_interface(self):
        self.assertEqual(merged(stretches=[(1, 2), (3, 3)]), [(1, 3)])


class Overlay(AtOnce):
    def assert_laid(self, rows, told):
        handed = list(rows)
        self.assertEqual(overlay(handed), told)
        self.assertEqual(handed, rows)

    def test_of_none(self):
        self.assertEqual(overlay([]), [])

    def test_of_one(self):
        self.assert_laid([(3, 3, "free")], [(3, 3, "free")])
        self.assert_laid([(3, 9, "open")], [(3, 9, "open")])

    def test_in_any_order_where_they_lie_apart(self):
        for order in itertools.permutations([(1, 2, "free"), (4, 5, "free"), (7, 7, "open")]):
            self.assert_laid(list(order), [(1, 2, "free"), (4, 5, "free"), (7, 7, "open")])

    def test_the_last_one_says(self):
        self.assert_laid([(1, 5, "free"), (3, 8, "open")], [(1, 2, "free"), (3, 8, "open")])
        self.assert_laid([(3, 8, "open"), (1, 5, "free")], [(1, 5, "free"), (6, 8, "open")])
        self.assert_laid([(1, 5, "free"), (5, 8, "open")], [(1, 4, "free"), (5, 8, "open")])
        self.assert_laid([(5, 8, "open"), (1, 5, "free")], [(1, 5, "free"), (6, 8, "open")])
        self.assert_laid([(1, 5, "free"), (3, 8, "free")], [(1, 8, "free")])

    def test_one_within_the_other(self):
        self.assert_laid([(1, 9, "free"), (4, 5, "open")], [(1, 3, "free"), (4, 5, "open"), (6, 9, "free")])
        self.assert_laid([(4, 5, "open"), (1, 9, "free")], [(1, 9, "free")])
        self.assert_laid([(1, 9, "free"), (4, 5, "free")], [(1, 9, "free")])
        self.assert_laid([(1, 9, "free"), (1, 5, "open")], [(1, 5, "open"), (6, 9, "free")])
        self.assert_laid([(1, 9, "free"), (5, 9, "open")], [(1, 4, "free"), (5, 9, "open")])
        self.assert_laid([(1, 5, "open"), (1, 9, "free")], [(1, 9, "free")])
        self.assert_laid(
            [(1, 9, "free"), (3, 7, "open"), (5, 5, "free")],
            [(1, 2, "free"), (3, 4, "open"), (5, 5, "free"), (6, 7, "open"), (8, 9, "free")],
        )

    def test_over_several(self):
        rows = [(1, 2, "free"), (4, 5, "open"), (7, 9, "free")]
        self.assert_laid(rows + [(2, 7, "open")], [(1, 1, "free"), (2, 7, "open"), (8, 9, "free")])
        self.assert_laid(rows + [(0, 10, "open")], [(0, 10, "open")])
        self.assert_laid(rows + [(3, 6, "free")], [(1, 9, "free")])
        self.assert_laid(rows + [(3, 3, "free")], [(1, 3, "free"), (4, 5, "open"), (7, 9, "free")])
        self.assert_laid(rows + [(6, 6, "open")], [(1, 2, "free"), (4, 6, "open"), (7, 9, "free")])

    def test_that_touch(self):
        for order in itertools.permutations([(1, 2, "free"), (3, 4, "free")]):
            self.assert_laid(list(order), [(1, 4, "free")])
        for order in itertools.permutations([(1, 2, "free"), (3, 4, "open")]):
            self.assert_laid(list(order), [(1, 2, "free"), (3, 4, "open")])
        for order in itertools.permutations([(1, 1, "open"), (2, 2, "open"), (3, 3, "open")]):
            self.assert_laid(list(order), [(1, 3, "open")])

    def test_touching_only_after_another_was_laid_over(self):
        self.assert_laid([(1, 9, "free"), (4, 6, "open"), (4, 6, "free")], [(1, 9, "free")])
        self.assert_laid([(1, 3, "free"), (4, 6, "open"), (4, 4, "free")], [(1, 4, "free"), (5, 6, "open")])

    def test_the_same_stretch_twice(self):
        self.assert_laid([(1, 5, "free"), (1, 5, "free")], [(1, 5, "free")])
        self.assert_laid([(1, 5, "free"), (1, 5, "open")], [(1, 5, "open")])
        self.assert_laid([(1, 5, "open"), (1, 5, "free")], [(1, 5, "free")])
        self.assert_laid([(1, 5, "free"), (3, 3, "open"), (1, 5, "free")], [(1, 5, "free")])

    def test_days_below_0(self):
        self.assert_laid([(-5, 5, "free"), (-1, 0, "open")], [(-5, -2, "free"), (-1, 0, "open"), (1, 5, "free")])
        self.assert_laid([(-5, -1, "free"), (0, 4, "free")], [(-5, 4, "free")])
        self.assert_laid([(-5, -1, "free"), (0, 4, "open")], [(-5, -1, "free"), (0, 4, "open")])
        self.assert_laid([(-9, -7, "open"), (-8, -8, "free")], [(-9, -9, "open"), (-8, -8, "free"), (-7, -7, "open")])

    def test_of_any_number_of_days(self):
        for size in (BIG, HUGE):
            self.assert_laid(
                [(-size, size, "free"), (0, 0, "open")],
                [(-size, -1, "free"), (0, 0, "open"), (1, size, "free")],
            )
            self.assert_laid([(0, size, "free"), (size + 1, 2 * size, "free")], [(0, 2 * size, "free")])
            self.assert_laid(
                [(0, 2 * size, "free"), (-size, size, "open")],
                [(-size, size, "open"), (size + 1, 2 * size, "free")],
            )

    def test_against_laying_day_by_day(self):
        chance = random.Random(11)
        for turn in range(3000):
            rows = [some_row(chance, -15, 15, 10) for k in range(chance.randint(0, 14))]
            self.assertEqual(overlay(list(rows)), overlay_by_day(rows), rows)

    def test_all_small_ones_against_laying(self):
        small = [(first, last, word) for first in range(-1, 3) for last in range(first, 3) for word in ("free", "open")]
        for rows in itertools.product(small, repeat=3):
            self.assertEqual(overlay(list(rows)), overlay_by_day(rows), rows)

    def test_of_many(self):
        rows = [(0, 9999, "free")] + [(2 * k, 2 * k, "open") for k in range(2000)]
        self.assertEqual(overlay(list(rows)), overlay_by_day(rows))

    def test_what_is_told_is_the_askers_own(self):
        handed = [(5, 9, "free"), (1, 2, "open")]
        told = overlay(handed)
        told.append((0, 0, "free"))
        told[0] = (7, 7, "open")
        self.assertEqual(handed, [(5, 9, "free"), (1, 2, "open")])
        self.assertEqual(overlay(handed), [(1, 2, "open"), (5, 9, "free")])
        alone = [(1, 2, "open")]
        self.assertIsNot(overlay(alone), alone)
        none = []
        overlay(none).append((1, 1, "free"))
        self.assertEqual(none, [])
        self.assertEqual(overlay([]), [])

    def test_a_list_of_tuples(self):
        told = overlay([(5, 9, "free"), (1, 2, "open")])
        self.assertIs(type(told), list)
        self.assertEqual([type(row) for row in told], [tuple, tuple])

    def test_by_the_name_of_the_interface(self):
        self.assertEqual(overlay(rows=[(1, 2, "free")]), [(1, 2, "free")])


class Place(AtOnce):
    def assert_places(self, stretches, days):
        for day in days:
            handed = list(stretches)
            self.assertEqual(place(handed, day), len([s for s in stretches if s[1] < day]), (stretches, day))
            self.assertEqual(handed, stretches)

    def test_of_an_empty_list(self):
        for day in (-BIG, -1, 0, 1, 7, BIG):
            self.assertEqual(place([], day), 0)

    def test_of_one(self):
        self.assertEqual([place([(3, 5)], day) for day in range(8)], [0, 0, 0, 0, 0, 0, 1, 1])
        self.assertEqual([place([(3, 3)], day) for day in range(8)], [0, 0, 0, 0, 1, 1, 1, 1])

    def test_before_in_between_and_behind(self):
        stretches = [(-4, -2), (0, 0), (1, 3), (7, 9)]
        told = [place(stretches, day) for day in range(-6, 12)]
        self.assertEqual(told, [0, 0, 0, 0, 0, 1, 1, 2, 2, 2, 3, 3, 3, 3, 3, 3, 4, 4])

    def test_in_rows(self):
        rows = [(1, 2, "free"), (3, 5, "open"), (8, 8, "free")]
        self.assertEqual([place(rows, day) for day in range(11)], [0, 0, 0, 1, 1, 1, 2, 2, 2, 3, 3])

    def test_against_counting(self):
        chance = random.Random(12)
        for turn in range(500):
            rows = overlay_by_day([some_row(chance, -30, 30, 9) for k in range(chance.randint(0, 12))])
            self.assert_places(rows, range(-45, 55))
            self.assert_places([row[:2] for row in rows], range(-45, 55))

    def test_in_lists_of_each_length(self):
        for length in range(40):
            self.assert_places([(3 * k, 3 * k + 1) for k in range(length)], range(-3, 125))

    def test_of_any_size(self):
        for size in (BIG, HUGE):
            stretches = [(-2 * size, -size), (0, size), (size + 1, 2 * size), (3 * size, 3 * size)]
            ends = [end for stretch in stretches for end in stretch]
            self.assert_places(stretches, [end + k for end in ends for k in (-1, 0, 1)])

    def test_a_whole_number(self):
        self.assertIs(type(place([(1, 2)], 3)), int)
        self.assertIs(type(place([], 3)), int)

    def test_by_the_names_of_the_interface(self):
        self.assertEqual(place(stretches=[(1, 2)], day=3), 1)


if __name__ == "__main__":
    unittest.main()
