"""Points [12], [13] and [15]: days free by a pattern, what is refused of it, its open days counted."""

import unittest

from calendar_walk import day_of_year, is_free
from limits import AtOnce
from refused import Refusing
from samples import wholes_of_all_sizes, written
from table_samples import MOVES, PATTERNS, TURN, bad_weeks, bad_yearlies, some_tables
from termcourt.days import date_of, day_of
from termcourt.errors import NoTable
from termcourt.patterns import Pattern

SOME_DAYS = 2 * TURN + 400


def some_patterns():
    return [(week, yearly) for week, yearly, rows in some_tables()]


def free_days(pattern, first, last):
    return [day for day in range(first, last + 1) if pattern.is_free(day)]


class FreeDays(AtOnce):
    def test_by_weekday(self):
        pattern = Pattern([6, 7], [])
        self.assertEqual(free_days(pattern, 0, 20), [5, 6, 12, 13, 19, 20])
        self.assertEqual(free_days(pattern, 364, 377), [369, 370, 376, 377])

    def test_each_weekday_alone(self):
        for weekday in range(1, 8):
            self.assertEqual(free_days(Pattern([weekday], []), 0, 20), [weekday - 1, weekday + 6, weekday + 13])

    def test_by_none(self):
        self.assertEqual(free_days(Pattern([], []), 0, 800), [])

    def test_the_first_day_of_the_year(self):
        self.assertEqual(free_days(Pattern([], [(0, 0)]), 0, 1463), [0, 371, 735, 1099, 1463])

    def test_the_last_day_of_a_short_year(self):
        self.assertEqual(free_days(Pattern([], [(363, 363)]), 0, 1462), [363, 734, 1098, 1462])

    def test_the_last_week_of_a_long_year_is_never_yearly(self):
        pattern = Pattern([], [(0, 29), (334, 363)])
        for year in (0, 6, 12, 17, 23):
            first = day_of(year, 1, 1)
            self.assertIs(pattern.is_free(first), True)
            self.assertIs(pattern.is_free(first + 363), True)
            self.assertEqual([pattern.is_free(first + k) for k in range(364, 371)], [False] * 7)
            self.assertIs(pattern.is_free(first + 371), True)

    def test_the_last_week_of_a_long_year_by_weekday(self):
        pattern = Pattern([1, 7], [(363, 363)])
        self.assertEqual(free_days(pattern, 362, 372), [363, 364, 370, 371])

    def test_the_day_of_the_year_by_its_date(self):
        for day in list(range(SOME_DAYS)) + [move + k for move in MOVES for k in range(0, 6209, 97)]:
            year, week, day_in_week = date_of(day)
            self.assertEqual(day_of_year(day), 7 * (week - 1) + day_in_week - 1)

    def test_yearly_stretches_that_overlap_or_touch(self):
        pattern = Pattern([], [(12, 14), (10, 12), (15, 16), (12, 13)])
        self.assertEqual(free_days(pattern, 0, 370), [10, 11, 12, 13, 14, 15, 16])

    def test_against_the_words_day_by_day(self):
        for week, yearly in some_patterns():
            pattern = Pattern(week, yearly)
            for day in range(0, SOME_DAYS):
                self.assertIs(pattern.is_free(day), is_free(day, week, yearly), (week, yearly, day))

    def test_days_of_many_figures(self):
        for week, yearly in PATTERNS:
            pattern = Pattern(week, yearly)
            for number in wholes_of_all_sizes(60) + [written(300)]:
                for day in range(number, number + 8):
                    self.assertIs(pattern.is_free(day), is_free(day, week, yearly), (week, yearly, day))

    def test_the_ends_of_years_of_sixty_figures(self):
        for week, yearly in PATTERNS:
            pattern = Pattern(week, yearly)
            for year in range(written(60), written(60) + 18):
                first = day_of(year, 1, 1)
                for day in range(first - 9, first + 9):
                    self.assertIs(pattern.is_free(day), is_free(day, week, yearly), (week, yearly, day))


class ListsHandedIn(AtOnce):
    def test_they_stay_as_they_were(self):
        for week, yearly in some_patterns():
            handed = (list(week), list(yearly))
            pattern = Pattern(*handed)
            pattern.is_free(5)
            pattern.before(500)
            pattern.nth(500)
            self.assertEqual(handed, (week, yearly))

    def test_they_may_be_changed_afterwards(self):
        for week, yearly in some_patterns():
            handed = (list(week), list(yearly))
            pattern = Pattern(*handed)
            handed[0].clear()
            handed[0].append(4)
            handed[1].insert(0, (200, 202))
            handed[1].pop()
            same = Pattern(week, yearly)
            for day in range(380):
                self.assertIs(pattern.is_free(day), is_free(day, week, yearly))
                self.assertEqual(pattern.before(day), same.before(day))
                self.assertEqual(pattern.nth(day), same.nth(day))

    def test_two_patterns_of_one_list_are_each_their_own(self):
        week = [1]
        one = Pattern(week, [])
        week.append(2)
        other = Pattern(week, [])
        self.assertEqual(free_days(one, 0, 6), [0])
        self.assertEqual(free_days(other, 0, 6), [0, 1])


class Refused(Refusing):
    def test_week(self):
        for week, at in bad_weeks():
            for yearly in ([], [(0, 5)]):
                self.assert_refused("NoTable", Pattern, week, yearly, part="week", at=at)

    def test_yearly(self):
        for yearly, at in bad_yearlies():
            for week in ([], [1, 2, 3, 4, 5, 6]):
                self.assert_refused("NoTable", Pattern, week, yearly, part="yearly", at=at)

    def test_week_goes_ahead_of_yearly(self):
        for yearly, at in bad_yearlies()[::7]:
            self.assert_refused("NoTable", Pattern, [1, 2, 8], yearly, part="week", at=2)
        for week, at in bad_weeks():
            self.assert_refused("NoTable", Pattern, week, [(5, 4)], part="week", at=at)

    def test_at_is_a_whole_number(self):
        for handed in (([0], []), ([], [(5, 4)])):
            with self.assertRaises(NoTable) as caught:
                Pattern(*handed)
            self.assertIs(type(caught.exception.at), int)

    def test_what_is_refused_is_not_changed(self):
        week = [1, [2]]
        yearly = [(0, [1])]
        self.assert_refused("NoTable", Pattern, week, yearly, part="week", at=1)
        self.assert_refused("NoTable", Pattern, [], yearly, part="yearly", at=0)
        self.assertEqual(week, [1, [2]])
        self.assertEqual(yearly, [(0, [1])])


class Taken(AtOnce):
    def test_six_weekdays(self):
        for left_out in range(1, 8):
            week = [weekday for weekday in range(7, 0, -1) if weekday != left_out]
            pattern = Pattern(week, [])
            self.assertEqual([day for day in range(14) if not pattern.is_free(day)], [left_out - 1, left_out + 6])

    def test_thirty_days_a_year(self):
        for first in (0, 1, 100, 334):
            pattern = Pattern([], [(first, first + 29)])
            self.assertEqual(free_days(pattern, 0, 370), list(range(first, first + 30)))

    def test_one_day_a_year(self):
        for within in (0, 1, 200, 362, 363):
            self.assertEqual(free_days(Pattern([], [(within, within)]), 0, 370), [within])

    def test_four_stretches(self):
        pattern = Pattern([], [(0, 29), (30, 59), (60, 89), (90, 119)])
        self.assertEqual(free_days(pattern, 0, 370), list(range(120)))
        self.assertEqual(free_days(Pattern([], [(5, 6)] * 4), 0, 370), [5, 6])


class OpenDays(AtOnce):
    def test_before_0_there_is_none(self):
        for week, yearly in some_patterns():
            self.assertEqual(Pattern(week, yearly).before(0), 0)

    def test_by_hand(self):
        pattern = Pattern([6, 7], [])
        self.assertEqual([pattern.before(day) for day in range(10)], [0, 1, 2, 3, 4, 5, 5, 5, 6, 7])
        self.assertEqual([pattern.nth(many) for many in range(8)], [0, 1, 2, 3, 4, 7, 8, 9])
        self.assertEqual(pattern.before(371), 265)
        self.assertEqual(pattern.nth(265), 371)

    def test_before_and_nth_against_counting_day_by_day(self):
        for week, yearly in some_patterns():
            pattern = Pattern(week, yearly)
            many = 0
            for day in range(SOME_DAYS):
                self.assertEqual(pattern.before(day), many, (week, yearly, day))
                if not is_free(day, week, yearly):
                    self.assertEqual(pattern.nth(many), day, (week, yearly, many))
                    many += 1

    def test_days_of_many_figures_against_turns_of_seventeen_years(self):
        for week, yearly in PATTERNS:
            pattern = Pattern(week, yearly)
            in_a_turn = pattern.before(TURN)
            for move in MOVES:
                earlier = move // TURN * in_a_turn
                for day in list(range(0, TURN, 61)) + [363, 364, 370, 371, 372, 734, 735, TURN - 1]:
                    self.assertEqual(pattern.before(move + day), earlier + pattern.before(day))
                for many in [0, 1, in_a_turn // 2, in_a_turn - 1, in_a_turn, in_a_turn + 1]:
                    self.assertEqual(pattern.nth(earlier + many), move + pattern.nth(many))

    def test_each_other_reverse(self):
        for week, yearly in PATTERNS:
            pattern = Pattern(week, yearly)
            for number in wholes_of_all_sizes(60) + [written(299)]:
                for many in range(number, number + 3):
                    day = pattern.nth(many)
                    self.assertIs(pattern.is_free(day), False)
                    self.assertEqual(pattern.before(day), many)
                    self.assertEqual(pattern.before(day + 1), many + 1)

    def test_whole_numbers_are_told(self):
        for week, yearly in PATTERNS:
            pattern = Pattern(week, yearly)
            for number in (0, 1, 7, 371, written(60)):
                self.assertIs(type(pattern.before(number)), int)
                self.assertIs(type(pattern.nth(number)), int)

    def test_by_the_names_of_the_interface(self):
        pattern = Pattern(week=[6, 7], yearly=[(0, 2)])
        self.assertIs(pattern.is_free(day=0), True)
        self.assertEqual(pattern.before(day=7), 2)
        self.assertEqual(pattern.nth(many=2), 7)


if __name__ == "__main__":
    unittest.main()
