"""Points [18] to [20] and [22]: days that stand still, the full day and the last day of a term."""

import unittest

from calendar_walk import free_by
from limits import AtOnce
from samples import wholes_of_all_sizes, written
from table_samples import BIG, MOVES, PATTERNS, TURN, moved, some_tables
from term_samples import UNITS, shifted, some_terms
from term_walk import walk
from termcourt.kinds import kind_of
from termcourt.spans import full_day, last_day, marks, still_on
from termcourt.tables import Table

PLAIN = Table([])
ENDS_OF_WEEKS = Table([6, 7])


def is_later_or_same(one, other):
    """Whether the day one is not earlier than the other, no day being later than all."""
    return one is None or other is not None and one >= other


class StillOn(AtOnce):
    def test_no_pauses(self):
        for day in (0, 1, 7, written(60), written(300)):
            self.assertIs(still_on([], day), False)

    def test_before_on_within_and_behind_one(self):
        told = [still_on([(3, 6)], day) for day in range(10)]
        self.assertEqual(told, [False] * 3 + [True] * 4 + [False] * 3)

    def test_of_one_day(self):
        self.assertEqual([still_on([(3, 3)], day) for day in range(2, 5)], [False, True, False])
        self.assertEqual([still_on([(0, 0)], day) for day in range(3)], [True, False, False])

    def test_several(self):
        told = [day for day in range(40) if still_on([(0, 1), (3, 3), (10, 12), (20, 30)], day)]
        self.assertEqual(told, [0, 1, 3, 10, 11, 12] + list(range(20, 31)))

    def test_that_touch(self):
        told = [day for day in range(40) if still_on([(3, 5), (6, 6), (7, 9), (11, 12)], day)]
        self.assertEqual(told, [3, 4, 5, 6, 7, 8, 9, 11, 12])

    def test_a_last_one_that_goes_on_for_ever(self):
        pauses = [(2, 3), (6, None)]
        self.assertEqual([day for day in range(9) if still_on(pauses, day)], [2, 3, 6, 7, 8])
        for day in (100, written(60), written(300)):
            self.assertIs(still_on(pauses, day), True)
            self.assertIs(still_on([(day, None)], day), True)
            self.assertIs(still_on([(day, None)], day - 1), False)
            self.assertIs(still_on([(day - 5, day), (day + 1, None)], day + 7), True)
        self.assertIs(still_on([(0, None)], 0), True)

    def test_days_of_any_size(self):
        for number in wholes_of_all_sizes():
            pauses = [(number, number + 2), (number + 4, 2 * number + 10), (2 * number + 12, 2 * number + 12)]
            told = [still_on(pauses, number + k) for k in (-1, 0, 1, 2, 3, 4, 5)]
            self.assertEqual(told, [False, True, True, True, False, True, True])
            told = [still_on(pauses, 2 * number + k) for k in (9, 10, 11, 12, 13)]
            self.assertEqual(told, [True, True, False, True, False])


class ByHand(AtOnce):
    def assert_days(self, unit, table, start, units, pauses, full, last):
        kind = kind_of(unit, table)
        with self.subTest(unit=unit, start=start, units=units, pauses=pauses):
            self.assertEqual((full_day(kind, start, units, pauses), last_day(kind, start, units, pauses)), (full, last))

    def test_without_pauses(self):
        self.assert_days("days", PLAIN, 0, 1, [], 1, 1)
        self.assert_days("days", PLAIN, 5, 3, [], 8, 8)
        self.assert_days("weeks", PLAIN, 5, 2, [], 19, 19)
        self.assert_days("court", PLAIN, 5, 3, [], 8, 8)
        self.assert_days("court", ENDS_OF_WEEKS, 3, 1, [], 4, 4)
        self.assert_days("court", ENDS_OF_WEEKS, 4, 1, [], 7, 7)
        self.assert_days("court", ENDS_OF_WEEKS, 4, 6, [], 14, 14)

    def test_the_start_does_not_count_though_it_is_free(self):
        self.assert_days("days", ENDS_OF_WEEKS, 6, 1, [], 7, 7)
        self.assert_days("court", ENDS_OF_WEEKS, 6, 1, [], 7, 7)
        self.assert_days("weeks", ENDS_OF_WEEKS, 0, 1, [], 7, 7)

    def test_a_full_day_that_is_free(self):
        self.assert_days("days", ENDS_OF_WEEKS, 0, 5, [], 5, 7)
        self.assert_days("days", ENDS_OF_WEEKS, 0, 6, [], 6, 7)
        self.assert_days("weeks", ENDS_OF_WEEKS, 5, 1, [], 12, 14)

    def test_pauses_earlier_than_the_start_and_on_it(self):
        for pauses in ([(0, 3)], [(10, 10)], [(0, 10)], [(0, 2), (3, 9), (10, 10)]):
            self.assert_days("days", PLAIN, 10, 3, pauses, 13, 13)

    def test_pauses_from_the_day_behind_the_start_on(self):
        self.assert_days("days", PLAIN, 10, 3, [(11, 11)], 14, 14)
        self.assert_days("days", PLAIN, 10, 3, [(11, 20)], 23, 23)
        self.assert_days("days", PLAIN, 10, 3, [(0, 20)], 23, 23)

    def test_pauses_within_and_on_the_last_days(self):
        self.assert_days("days", PLAIN, 10, 3, [(12, 13)], 15, 15)
        self.assert_days("days", PLAIN, 10, 3, [(13, 13)], 14, 14)
        self.assert_days("days", PLAIN, 10, 3, [(14, 20)], 13, 13)

    def test_pauses_that_touch(self):
        self.assert_days("days", PLAIN, 10, 3, [(12, 13), (14, 14), (15, 19)], 21, 21)
        self.assert_days("weeks", PLAIN, 0, 1, [(1, 7), (8, 14)], 21, 21)

    def test_a_pause_of_very_many_days(self):
        for number in (written(20), written(60), written(299)):
            self.assert_days("days", PLAIN, 10, 3, [(12, 11 + number)], 13 + number, 13 + number)
            self.assert_days("court", ENDS_OF_WEEKS, 0, 5, [(2, 7 * number + 1)], 7 * number + 7, 7 * number + 7)

    def test_a_pause_for_ever_that_leaves_enough_days(self):
        self.assert_days("days", PLAIN, 10, 3, [(14, None)], 13, 13)
        self.assert_days("court", ENDS_OF_WEEKS, 4, 1, [(8, None)], 7, 7)

    def test_a_pause_for_ever_that_leaves_too_few_days(self):
        for first in (0, 9, 10, 11, 12, 13):
            self.assert_days("days", PLAIN, 10, 3, [(first, None)], None, None)
        self.assert_days("days", PLAIN, 10, 3, [(12, 12), (14, None)], None, None)
        self.assert_days("weeks", PLAIN, 0, 1, [(7, None)], None, None)
        self.assert_days("court", ENDS_OF_WEEKS, 4, 1, [(7, None)], None, None)
        self.assert_days("court", ENDS_OF_WEEKS, 4, 1, [(5, None)], None, None)

    def test_a_pause_for_ever_with_a_full_day_and_no_last_day(self):
        self.assert_days("days", ENDS_OF_WEEKS, 0, 5, [(6, None)], 5, None)
        self.assert_days("days", ENDS_OF_WEEKS, 0, 5, [(7, None)], 5, None)
        self.assert_days("days", ENDS_OF_WEEKS, 0, 6, [(7, None)], 6, None)
        self.assert_days("days", ENDS_OF_WEEKS, 0, 5, [(7, 7), (8, None)], 5, None)
        self.assert_days("weeks", ENDS_OF_WEEKS, 5, 1, [(13, None)], 12, None)

    def test_a_pause_right_behind_a_free_full_day(self):
        self.assert_days("days", ENDS_OF_WEEKS, 0, 5, [(6, 6)], 5, 7)
        self.assert_days("days", ENDS_OF_WEEKS, 0, 5, [(6, 7)], 5, 8)
        self.assert_days("days", ENDS_OF_WEEKS, 0, 5, [(6, 11)], 5, 14)
        self.assert_days("days", ENDS_OF_WEEKS, 0, 5, [(7, 7)], 5, 8)

    def test_free_days_and_pauses_in_turn(self):
        self.assert_days("days", ENDS_OF_WEEKS, 0, 5, [(7, 11), (14, 18), (21, 25)], 5, 28)
        self.assert_days("days", ENDS_OF_WEEKS, 0, 5, [(7, 11), (14, 17), (21, 25)], 5, 18)
        self.assert_days("days", ENDS_OF_WEEKS, 0, 5, [(7, 11), (14, 18), (21, None)], 5, None)

    def test_the_full_day_of_court_days_is_the_last_one(self):
        table = Table([6, 7], [], [(7, 20, "free"), (9, 9, "open")])
        self.assert_days("court", table, 4, 1, [], 9, 9)
        self.assert_days("court", table, 4, 2, [], 21, 21)
        self.assert_days("court", table, 4, 1, [(9, 9)], 21, 21)
        self.assert_days("court", table, 4, 1, [(10, None)], 9, 9)
        self.assert_days("court", table, 4, 2, [(10, None)], None, None)


class DayByDay(AtOnce):
    def test_full_days_and_last_days(self):
        for at, (week, yearly, rows) in enumerate(some_tables()):
            table = Table(week, yearly, rows)
            free = free_by(week, yearly, rows)
            for start, units, pauses in some_terms(at, 30):
                for unit in UNITS:
                    kind = kind_of(unit, table)
                    told = (full_day(kind, start, units, pauses), last_day(kind, start, units, pauses))
                    self.assertEqual(told, walk(unit, start, units, pauses, free)[:2],
                                     (unit, start, units, pauses, week, yearly, rows))

    def test_each_place_of_one_pause(self):
        rows = [(9, 11, "free"), (15, 15, "open")]
        table = Table([6, 7], [(30, 35)], rows)
        free = free_by([6, 7], [(30, 35)], rows)
        for unit in UNITS:
            kind = kind_of(unit, table)
            for first in range(0, 30):
                for last in [None] + list(range(first, 34)):
                    for units in (1, 3):
                        told = (full_day(kind, 5, units, [(first, last)]), last_day(kind, 5, units, [(first, last)]))
                        self.assertEqual(told, walk(unit, 5, units, [(first, last)], free)[:2], (unit, first, last))

    def test_no_samples_were_all_alike(self):
        found = {(full is None, last is None, full == last)
                 for unit in UNITS for start, units, pauses in some_terms(0, 200)
                 for full, last, words in [walk(unit, start, units, pauses, free_by([6, 7], []))]}
        self.assertEqual(found, {(True, True, True), (False, True, False), (False, False, True), (False, False, False)})


class OfAnySize(AtOnce):
    def test_days_of_many_figures(self):
        for at, (week, yearly, rows) in enumerate(some_tables()):
            near = Table(week, yearly, rows)
            for move in MOVES:
                far = Table(week, yearly, moved(rows, move))
                for start, units, pauses in some_terms(100 + at, 10):
                    for unit in UNITS:
                        for ask in (full_day, last_day):
                            told = ask(kind_of(unit, far), start + move, units, shifted(pauses, move))
                            same = ask(kind_of(unit, near), start, units, pauses)
                            self.assertEqual(told, None if same is None else same + move)

    def test_units_of_many_figures(self):
        for week, yearly in PATTERNS:
            table = Table(week, yearly)
            in_a_turn = {"days": TURN, "weeks": TURN // 7, "court": table.before(TURN)}
            for unit in UNITS:
                kind = kind_of(unit, table)
                for start in (0, 5, 370, BIG + 3):
                    for turns in (1, 1000, written(20), written(56), written(290)):
                        for units in (1, 2, 40):
                            many = turns * in_a_turn[unit] + units
                            for ask in (full_day, last_day):
                                self.assertEqual(ask(kind, start, many, []), ask(kind, start, units, []) + turns * TURN)

    def test_units_of_each_number_of_figures(self):
        for units in wholes_of_all_sizes(60)[1:]:
            for start in (0, units):
                for ask in (full_day, last_day):
                    self.assertEqual(ask(kind_of("days", PLAIN), start, units, []), start + units)
                    self.assertEqual(ask(kind_of("weeks", PLAIN), start, units, []), start + 7 * units)
                    self.assertEqual(ask(kind_of("court", PLAIN), start, units, []), start + units)
                    self.assertEqual(ask(kind_of("days", PLAIN), start, units, [(start + units, None)]), None)
                    paused = [(start + 1, start + units)]
                    self.assertEqual(ask(kind_of("days", PLAIN), start, units, paused), start + 2 * units)

    def test_a_pause_of_many_turns_moves_what_is_behind_it(self):
        for week, yearly in PATTERNS:
            table = Table(week, yearly)
            for start, units, pauses in some_terms(7, 20):
                begin = start + 1
                kept = [pause for pause in pauses if pause[0] >= begin]
                for days in (TURN, TURN * written(56), TURN * written(290)):
                    longer = [(begin, begin + days - 1)] + shifted(kept, days)
                    for unit in UNITS:
                        for ask in (full_day, last_day):
                            same = ask(kind_of(unit, table), start, units, kept)
                            told = ask(kind_of(unit, table), start, units, longer)
                            self.assertEqual(told, None if same is None else same + days)

    def test_very_many_units_over_pauses(self):
        kind = kind_of("days", PLAIN)
        pauses = [(10 * k, 10 * k + 4) for k in range(1, 2000)] + [(BIG, 2 * BIG), (2 * BIG + 1, 2 * BIG + 1)]
        self.assertEqual(full_day(kind, 0, BIG, pauses), BIG + 5 * 1999 + BIG + 2)
        self.assertEqual(last_day(kind, 0, BIG, pauses), BIG + 5 * 1999 + BIG + 2)
        self.assertEqual(last_day(kind, 0, BIG, pauses[:-1] + [(2 * BIG + 1, None)]), None)

    def test_the_full_day_counts_and_just_so_many_days_do(self):
        for week, yearly, rows in some_tables():
            table = Table(week, yearly, rows)
            for unit in UNITS:
                kind = kind_of(unit, table)
                for units in (3, written(30), written(60)):
                    pauses = [(2, 3), (written(25), 2 * written(25)), (3 * written(59), 4 * written(59))]
                    full = full_day(kind, 1, units, pauses)
                    self.assertIs(kind.counts_day(full) and not still_on(pauses, full), True)
                    still = sum(kind.counted_in(first, min(last, full)) for first, last in pauses)
                    self.assertEqual(kind.counted_in(2, full) - still, kind.days_for(units))


class NeverEarlier(AtOnce):
    def terms(self):
        """Tuples (unit, week, yearly, rows, start, units, pauses)."""
        for at, (week, yearly, rows) in enumerate(some_tables()):
            for start, units, pauses in some_terms(200 + at, 12):
                for unit in UNITS:
                    for move in (0, BIG):
                        yield unit, week, yearly, moved(rows, move), start + move, units, shifted(pauses, move)

    def test_for_one_unit_more(self):
        for unit, week, yearly, rows, start, units, pauses in self.terms():
            kind = kind_of(unit, Table(week, yearly, rows))
            told = [last_day(kind, start, units + more, pauses) for more in range(5)]
            for earlier, later in zip(told, told[1:]):
                self.assertTrue(is_later_or_same(later, earlier))

    def test_for_a_pause_more(self):
        for unit, week, yearly, rows, start, units, pauses in self.terms():
            kind = kind_of(unit, Table(week, yearly, rows))
            last = last_day(kind, start, units, pauses)
            for day in range(max(0, start - 2), start + 40, 3):
                if not still_on(pauses, day):
                    more = sorted(pauses + [(day, day)])
                    self.assertTrue(is_later_or_same(last_day(kind, start, units, more), last))
            if not pauses or pauses[-1][1] is not None:
                behind = max([start] + [pause[1] for pause in pauses]) + 1
                for day in (behind, behind + 3, behind + 100, behind + BIG):
                    self.assertTrue(is_later_or_same(last_day(kind, start, units, pauses + [(day, None)]), last))
                    more = pauses + [(day, day + BIG)]
                    self.assertTrue(is_later_or_same(last_day(kind, start, units, more), last))

    def test_for_a_free_day_more(self):
        for unit, week, yearly, rows, start, units, pauses in self.terms():
            if len(rows) < 12:
                last = last_day(kind_of(unit, Table(week, yearly, rows)), start, units, pauses)
                near = [] if last is None else [max(0, last - 1), last, last + 1]
                for day in near + [start + 1, start + 9]:
                    kind = kind_of(unit, Table(week, yearly, rows + [(day, day, "free")]))
                    self.assertTrue(is_later_or_same(last_day(kind, start, units, pauses), last))

    def test_no_last_day_is_later_than_all(self):
        kind = kind_of("days", ENDS_OF_WEEKS)
        self.assertEqual([last_day(kind, 0, units, [(7, None)]) for units in range(1, 9)], [1, 2, 3, 4] + [None] * 4)


class WhatIsHandedIn(AtOnce):
    def test_the_list_of_pauses_stays_as_it_was(self):
        for week, yearly, rows in some_tables():
            table = Table(week, yearly, rows)
            for start, units, pauses in some_terms(3, 10):
                for unit in UNITS:
                    kind = kind_of(unit, table)
                    handed = list(pauses)
                    still_on(handed, start)
                    full_day(kind, start, units, handed)
                    last_day(kind, start, units, handed)
                    marks(kind, start, units, handed)
                    self.assertEqual(handed, pauses)
                    self.assertIs(kind.table, table)

    def test_asked_again_the_same_is_told(self):
        kinds = [kind_of(unit, Table(week)) for unit in UNITS for week in ([], [6, 7], [1])]
        for start, units, pauses in some_terms(4, 30):
            for ask in (full_day, last_day, marks):
                told = [ask(kind, start, units, pauses) for kind in kinds]
                self.assertEqual([ask(kind, start, units, pauses) for kind in kinds], told)

    def test_what_is_changed_later_changes_nothing(self):
        kind = kind_of("days", ENDS_OF_WEEKS)
        pauses = [(3, 3)]
        self.assertEqual(last_day(kind, 0, 2, pauses), 2)
        pauses[0] = (1, 2)
        self.assertEqual(last_day(kind, 0, 2, pauses), 4)
        pauses.clear()
        self.assertEqual(last_day(kind, 0, 2, pauses), 2)

    def test_arguments_have_the_names_told(self):
        kind = kind_of("days", ENDS_OF_WEEKS)
        self.assertIs(still_on(pauses=[(3, 3)], day=3), True)
        self.assertEqual(full_day(kind=kind, start=0, units=4, pauses=[(3, 3)]), 5)
        self.assertEqual(last_day(kind=kind, start=0, units=4, pauses=[(3, 3)]), 7)

    def test_truths_and_whole_numbers_are_told(self):
        for unit in UNITS:
            kind = kind_of(unit, ENDS_OF_WEEKS)
            for pauses in ([], [(1, 5)], [(1, written(60))]):
                self.assertIs(type(still_on(pauses, 3)), bool)
                self.assertIs(type(full_day(kind, 0, 3, pauses)), int)
                self.assertIs(type(last_day(kind, 0, 3, pauses)), int)


if __name__ == "__main__":
    unittest.main()
