"""Point [21]: the marks of a term."""

import unittest

from calendar_walk import free_by
from limits import AtOnce
from samples import written
from table_samples import BIG, MOVES, TURN, moved, some_tables
from term_samples import UNITS, shifted, some_terms
from term_walk import marks as walked_marks
from term_walk import walk
from termcourt.kinds import kind_of
from termcourt.spans import full_day, last_day, marks
from termcourt.tables import Table

PLAIN = Table([])
ENDS_OF_WEEKS = Table([6, 7])
MOST_DAYS = 5000


def some_marks():
    """Tuples (kind, start, units, pauses, marks told), those alone that have a last day."""
    for at, (week, yearly, rows) in enumerate(some_tables()):
        table = Table(week, yearly, rows)
        for start, units, pauses in some_terms(300 + at, 8):
            for unit in UNITS:
                kind = kind_of(unit, table)
                told = marks(kind, start, units, pauses)
                if last_day(kind, start, units, pauses) is not None:
                    yield kind, start, units, pauses, told


class ByHand(AtOnce):
    def assert_marks(self, unit, table, start, units, pauses, told):
        with self.subTest(unit=unit, start=start, units=units, pauses=pauses):
            self.assertEqual(marks(kind_of(unit, table), start, units, pauses), told)

    def test_counts(self):
        self.assert_marks("days", PLAIN, 0, 1, [], [(1, 1, "counts")])
        self.assert_marks("days", PLAIN, 5, 3, [], [(6, 8, "counts")])
        self.assert_marks("weeks", PLAIN, 5, 2, [], [(6, 19, "counts")])
        self.assert_marks("court", PLAIN, 5, 3, [], [(6, 8, "counts")])

    def test_free_days_count_in_days_and_weeks(self):
        self.assert_marks("days", ENDS_OF_WEEKS, 3, 5, [], [(4, 8, "counts")])
        self.assert_marks("weeks", ENDS_OF_WEEKS, 3, 1, [], [(4, 10, "counts")])

    def test_free(self):
        told = [(4, 4, "counts"), (5, 6, "free"), (7, 8, "counts")]
        self.assert_marks("court", ENDS_OF_WEEKS, 3, 3, [], told)
        self.assert_marks("court", ENDS_OF_WEEKS, 4, 1, [], [(5, 6, "free"), (7, 7, "counts")])

    def test_waits(self):
        self.assert_marks("days", ENDS_OF_WEEKS, 0, 5, [], [(1, 5, "counts"), (6, 7, "waits")])
        self.assert_marks("days", ENDS_OF_WEEKS, 0, 6, [], [(1, 6, "counts"), (7, 7, "waits")])
        self.assert_marks("weeks", ENDS_OF_WEEKS, 5, 1, [], [(6, 12, "counts"), (13, 14, "waits")])

    def test_still(self):
        told = [(11, 11, "counts"), (12, 13, "still"), (14, 15, "counts")]
        self.assert_marks("days", PLAIN, 10, 3, [(12, 13)], told)
        self.assert_marks("days", PLAIN, 10, 1, [(0, 12)], [(11, 12, "still"), (13, 13, "counts")])

    def test_pauses_that_touch_are_one_stretch(self):
        told = [(11, 11, "counts"), (12, 16, "still"), (17, 18, "counts")]
        self.assert_marks("days", PLAIN, 10, 3, [(12, 13), (14, 14), (15, 16)], told)

    def test_pauses_outside_are_not_marked(self):
        self.assert_marks("days", PLAIN, 10, 3, [(0, 3), (5, 10), (14, 20)], [(11, 13, "counts")])
        self.assert_marks("days", PLAIN, 10, 3, [(14, None)], [(11, 13, "counts")])

    def test_still_goes_ahead_of_free_and_waits(self):
        told = [(4, 4, "counts"), (5, 5, "still"), (6, 6, "free"), (7, 7, "counts")]
        self.assert_marks("court", ENDS_OF_WEEKS, 3, 2, [(5, 5)], told)
        told = [(1, 5, "counts"), (6, 6, "still"), (7, 7, "waits")]
        self.assert_marks("days", ENDS_OF_WEEKS, 0, 5, [(6, 6)], told)
        told = [(1, 5, "counts"), (6, 6, "waits"), (7, 8, "still"), (9, 9, "waits")]
        self.assert_marks("days", ENDS_OF_WEEKS, 0, 5, [(7, 8)], told)

    def test_all_four_words(self):
        table = Table([6, 7], [], [(2, 2, "free")])
        told = [(1, 1, "counts"), (2, 2, "free"), (3, 3, "still"), (4, 4, "counts")]
        self.assert_marks("court", table, 0, 2, [(3, 3)], told)
        told = [(1, 2, "counts"), (3, 3, "still"), (4, 5, "counts"), (6, 6, "waits"), (7, 7, "still"), (8, 8, "waits")]
        self.assert_marks("days", table, 0, 4, [(3, 3), (7, 7)], told)

    def test_no_last_day(self):
        self.assert_marks("days", PLAIN, 10, 3, [(12, None)], [])
        self.assert_marks("days", PLAIN, 10, 3, [(0, None)], [])
        self.assert_marks("days", ENDS_OF_WEEKS, 0, 5, [(6, None)], [])
        self.assert_marks("weeks", ENDS_OF_WEEKS, 5, 1, [(14, None)], [])
        self.assert_marks("court", ENDS_OF_WEEKS, 4, 1, [(7, None)], [])
        self.assert_marks("days", ENDS_OF_WEEKS, BIG, written(60), [(BIG + 7, None)], [])


class DayByDay(AtOnce):
    def test_against_the_words(self):
        for at, (week, yearly, rows) in enumerate(some_tables()):
            table = Table(week, yearly, rows)
            free = free_by(week, yearly, rows)
            for start, units, pauses in some_terms(at, 12):
                for unit in UNITS:
                    full, last, words = walk(unit, start, units, pauses, free)
                    told = marks(kind_of(unit, table), start, units, pauses)
                    self.assertEqual(told, walked_marks(start, words), (unit, start, units, pauses, week, yearly, rows))

    def test_days_of_many_figures(self):
        for at, (week, yearly, rows) in enumerate(some_tables()[::5]):
            near = Table(week, yearly, rows)
            for move in MOVES:
                far = Table(week, yearly, moved(rows, move))
                for start, units, pauses in some_terms(400 + at, 6):
                    for unit in UNITS:
                        told = marks(kind_of(unit, far), start + move, units, shifted(pauses, move))
                        self.assertEqual(told, moved(marks(kind_of(unit, near), start, units, pauses), move))

    def test_a_last_day_five_thousand_days_later(self):
        for start in (0, 5, TURN, BIG):
            told = marks(kind_of("days", PLAIN), start, MOST_DAYS, [])
            self.assertEqual(told, [(start + 1, start + MOST_DAYS, "counts")])
            told = marks(kind_of("days", PLAIN), start, 2, [(start + 2, start + MOST_DAYS - 1)])
            words = [(start + 1, start + 1, "counts"), (start + 2, start + MOST_DAYS - 1, "still")]
            self.assertEqual(told, words + [(start + MOST_DAYS, start + MOST_DAYS, "counts")])

    def test_many_neighbours_in_five_thousand_days(self):
        free = free_by([2, 4, 6], [])
        pauses = [(10 * k, 10 * k + 1) for k in range(500)]
        for unit, units in (("days", 3900), ("weeks", 560), ("court", 2000)):
            full, last, words = walk(unit, 0, units, pauses, free)
            self.assertLessEqual(last, MOST_DAYS)
            self.assertEqual(marks(kind_of(unit, Table([2, 4, 6])), 0, units, pauses), walked_marks(0, words))


class WhatHoldsOfAll(AtOnce):
    def test_end_to_end_from_the_day_behind_the_start_to_the_last_day(self):
        for kind, start, units, pauses, told in some_marks():
            self.assertEqual((told[0][0], told[-1][1]), (start + 1, last_day(kind, start, units, pauses)))
            for first, last, word in told:
                self.assertLessEqual(first, last)
            for earlier, later in zip(told, told[1:]):
                self.assertEqual(earlier[1] + 1, later[0])

    def test_neighbours_have_unlike_words(self):
        words = set()
        for kind, start, units, pauses, told in some_marks():
            for earlier, later in zip(told, told[1:]):
                self.assertNotEqual(earlier[2], later[2])
            words |= {word for first, last, word in told}
        self.assertEqual(words, {"still", "waits", "counts", "free"})

    def test_just_as_many_days_count_as_the_units_ask(self):
        for kind, start, units, pauses, told in some_marks():
            counted = sum(last - first + 1 for first, last, word in told if word == "counts")
            self.assertEqual(counted, kind.days_for(units))

    def test_the_last_day_that_counts_is_the_full_day(self):
        for kind, start, units, pauses, told in some_marks():
            last = [mark[1] for mark in told if mark[2] == "counts"][-1]
            self.assertEqual(last, full_day(kind, start, units, pauses))


class WhatIsTold(unittest.TestCase):
    def test_a_list_of_tuples_of_two_numbers_and_a_text(self):
        told = marks(kind_of("court", ENDS_OF_WEEKS), 0, 9, [(3, 3)])
        self.assertIs(type(told), list)
        for mark in told:
            self.assertIs(type(mark), tuple)
            self.assertEqual([type(part) for part in mark], [int, int, str])

    def test_the_list_told_is_the_askers_own(self):
        kind = kind_of("court", ENDS_OF_WEEKS)
        for pauses in ([], [(3, 3)], [(3, None)]):
            told = marks(kind, 0, 9, pauses)
            same = list(told)
            again = marks(kind, 0, 9, pauses)
            self.assertIsNot(told, again)
            told.clear()
            told.append((3, 3, "still"))
            self.assertEqual(again, same)
            self.assertEqual(marks(kind, 0, 9, pauses), same)

    def test_arguments_have_the_names_told(self):
        kind = kind_of("days", ENDS_OF_WEEKS)
        self.assertEqual(marks(kind=kind, start=0, units=2, pauses=[]), [(1, 2, "counts")])


if __name__ == "__main__":
    unittest.main()
