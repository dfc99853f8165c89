"""Points [5] to [8]: weeks, years, dates, and what is refused of them."""

import unittest

from samples import not_wholes, wholes_of_all_sizes, written
from termcourt.days import date_of, day_of, first_week, is_long, long_before, weekday, year_of
from termcourt.errors import NoDay

LONG_OF_SEVENTEEN = (0, 6, 12)
MANY_YEARS = 1200


def weeks_of(year):
    """Its weeks by the words of [6], told apart from the program's own reckoning."""
    return 53 if year % 17 in LONG_OF_SEVENTEEN else 52


def some_years():
    return list(range(120)) + wholes_of_all_sizes()


class LongYears(unittest.TestCase):
    def test_the_years_that_the_document_names(self):
        for year in range(24):
            with self.subTest(year=year):
                self.assertIs(is_long(year), year in (0, 6, 12, 17, 23))

    def test_years_of_all_sizes(self):
        for year in some_years():
            self.assertIs(is_long(year), 3 * year % 17 < 3, year)
            self.assertIs(is_long(year), year % 17 in LONG_OF_SEVENTEEN, year)

    def test_long_before_against_counting(self):
        counted = 0
        for year in range(MANY_YEARS):
            self.assertEqual(long_before(year), counted, year)
            counted += year % 17 in LONG_OF_SEVENTEEN

    def test_long_before_of_years_of_all_sizes(self):
        for year in some_years():
            rest = [y for y in range(year % 17) if y in LONG_OF_SEVENTEEN]
            self.assertEqual(long_before(year), 3 * (year // 17) + len(rest), year)

    def test_of_any_seventeen_years_three_are_long(self):
        for year in list(range(120)) + wholes_of_all_sizes(60):
            self.assertEqual(sum(is_long(y) for y in range(year, year + 17)), 3, year)
            self.assertEqual(long_before(year + 17) - long_before(year), 3, year)

    def test_answers_are_whole_numbers(self):
        for year in (0, 1, 6, 7, 17, written(60)):
            for answer in (long_before(year), first_week(year), year_of(year)):
                self.assertIs(type(answer), int)


class Weeks(unittest.TestCase):
    def test_first_week_against_adding_up(self):
        week = 0
        for year in range(MANY_YEARS):
            self.assertEqual(first_week(year), week, year)
            week += weeks_of(year)

    def test_each_next_year_begins_after_the_last_week(self):
        for year in some_years():
            self.assertEqual(first_week(year + 1) - first_week(year), weeks_of(year), year)

    def test_seventeen_years_have_887_weeks_and_6209_days(self):
        for year in some_years():
            self.assertEqual(first_week(year + 17) - first_week(year), 887, year)
            self.assertEqual(day_of(year + 17, 1, 1) - day_of(year, 1, 1), 6209, year)

    def test_first_week_of_years_of_all_sizes(self):
        for year in some_years():
            turns, rest = divmod(year, 17)
            self.assertEqual(first_week(year), 887 * turns + sum(weeks_of(y) for y in range(rest)), year)

    def test_year_of_against_walking(self):
        week = 0
        for year in range(200):
            for within in range(weeks_of(year)):
                self.assertEqual(year_of(week), year, week)
                week += 1

    def test_year_of_the_first_and_the_last_week(self):
        for year in some_years():
            self.assertEqual(year_of(first_week(year)), year)
            self.assertEqual(year_of(first_week(year) + weeks_of(year) - 1), year)
            self.assertEqual(year_of(first_week(year) + weeks_of(year)), year + 1)

    def test_a_week_of_any_size_lies_in_its_year(self):
        for week in wholes_of_all_sizes():
            year = year_of(week)
            self.assertLessEqual(first_week(year), week)
            self.assertLess(week, first_week(year + 1))


class Weekdays(unittest.TestCase):
    def test_the_first_weeks(self):
        self.assertEqual([weekday(day) for day in range(15)], [1, 2, 3, 4, 5, 6, 7] * 2 + [1])

    def test_days_of_all_sizes(self):
        for day in wholes_of_all_sizes():
            self.assertEqual(weekday(day), day % 7 + 1, day)
            self.assertEqual(weekday(7 * day), 1)
            self.assertEqual(weekday(7 * day + 6), 7)
            self.assertIs(type(weekday(day)), int)


class Dates(unittest.TestCase):
    def assert_date(self, day, date):
        self.assertEqual(date_of(day), date)
        self.assertEqual(day_of(*date), day)

    def test_the_dates_that_the_document_names(self):
        self.assert_date(0, (0, 1, 1))
        self.assert_date(7, (0, 2, 1))
        self.assert_date(371, (1, 1, 1))

    def test_days_beside_them(self):
        self.assert_date(6, (0, 1, 7))
        self.assert_date(370, (0, 53, 7))
        self.assert_date(364, (0, 53, 1))
        self.assert_date(371 + 363, (1, 52, 7))
        self.assert_date(371 + 364, (2, 1, 1))
        self.assert_date(6209, (17, 1, 1))
        self.assert_date(6208, (16, 52, 7))

    def test_dates_one_after_another(self):
        day = 0
        for year in range(40):
            for week in range(1, weeks_of(year) + 1):
                for day_in_week in range(1, 8):
                    self.assertEqual(date_of(day), (year, week, day_in_week))
                    self.assertEqual(day_of(year, week, day_in_week), day)
                    day += 1

    def test_a_date_is_a_tuple_of_three_whole_numbers(self):
        for day in (0, 1, 7, 371, written(60)):
            self.assertIs(type(date_of(day)), tuple)
            self.assertEqual([type(part) for part in date_of(day)], [int, int, int])
            self.assertIs(type(day_of(*date_of(day))), int)

    def test_first_and_last_days_of_years_of_all_sizes(self):
        for year in some_years():
            first = 7 * first_week(year)
            last = first + 7 * weeks_of(year) - 1
            self.assert_date(first, (year, 1, 1))
            self.assert_date(first + 6, (year, 1, 7))
            self.assert_date(first + 7, (year, 2, 1))
            self.assert_date(last - 6, (year, weeks_of(year), 1))
            self.assert_date(last, (year, weeks_of(year), 7))
            self.assert_date(last + 1, (year + 1, 1, 1))

    def test_each_other_reverse_of_days_of_all_sizes(self):
        for number in wholes_of_all_sizes():
            for day in range(number, number + 8):
                self.assertEqual(day_of(*date_of(day)), day)

    def test_dates_rise_with_the_days(self):
        for number in [0, 7000] + wholes_of_all_sizes(60):
            dates = [date_of(day) for day in range(number, number + 30)]
            self.assertEqual(dates, sorted(dates))
            self.assertEqual(len(set(dates)), len(dates))

    def test_dates_rise_over_the_ends_of_years(self):
        for year in range(40):
            end = day_of(year + 1, 1, 1)
            dates = [date_of(day) for day in range(end - 10, end + 10)]
            for earlier, later in zip(dates, dates[1:]):
                self.assertLess(earlier, later)


class Refusals(unittest.TestCase):
    def assert_no_day(self, ask, *handed):
        with self.subTest(ask=ask.__name__, handed=handed):
            with self.assertRaises(NoDay) as caught:
                ask(*handed)
            self.assertIs(type(caught.exception), NoDay)

    def test_dates_with_something_that_is_no_whole_number(self):
        for thing in not_wholes():
            for year in (0, 1, written(60)):
                self.assert_no_day(day_of, thing, 1, 1)
                self.assert_no_day(day_of, year, thing, 1)
                self.assert_no_day(day_of, year, 1, thing)
                self.assert_no_day(day_of, year, thing, thing)
                self.assert_no_day(day_of, thing, 1, thing)
                self.assert_no_day(day_of, thing, thing, 1)
            self.assert_no_day(day_of, thing, thing, thing)

    def test_something_else_beside_a_number_that_is_none_there(self):
        for thing in not_wholes():
            self.assert_no_day(day_of, -1, thing, 1)
            self.assert_no_day(day_of, -1, 1, thing)
            self.assert_no_day(day_of, thing, 0, 1)
            self.assert_no_day(day_of, 0, 54, thing)
            self.assert_no_day(day_of, 0, thing, 8)

    def test_years_below_0(self):
        for year in list(range(1, 40)) + wholes_of_all_sizes(60)[1:]:
            for week in (1, 2, 52, 53):
                self.assert_no_day(day_of, -year, week, 1)

    def test_weeks_that_the_year_has_not(self):
        for year in list(range(40)) + [written(60), written(300), 17 * written(59), 17 * written(59) + 1]:
            for week in (0, -1, -52, weeks_of(year) + 1, 54, 55, 104, 10 ** 60, -10 ** 60, 10 ** 299):
                self.assert_no_day(day_of, year, week, 1)

    def test_days_that_no_week_has(self):
        for year in (0, 1, 6, 17, written(60)):
            for week in (1, 52, weeks_of(year)):
                for day in (0, -1, -7, 8, 9, 14, 10 ** 60, -10 ** 60, 10 ** 299):
                    self.assert_no_day(day_of, year, week, day)

    def test_the_edges_that_are_not_refused(self):
        for year in some_years():
            for week in (1, 52, weeks_of(year)):
                for day in (1, 7):
                    self.assertEqual(date_of(day_of(year, week, day)), (year, week, day))

    def test_day_numbers_below_0(self):
        for day in list(range(1, 400)) + wholes_of_all_sizes()[1:]:
            self.assert_no_day(date_of, -day)
            self.assert_no_day(weekday, -day)

    def test_day_numbers_that_are_no_whole_numbers(self):
        for thing in not_wholes():
            self.assert_no_day(date_of, thing)
            self.assert_no_day(weekday, thing)

    def test_what_is_refused_is_not_changed(self):
        for thing, same in (([1, 2], [1, 2]), ({"a": [1]}, {"a": [1]})):
            self.assert_no_day(day_of, thing, 1, 1)
            self.assert_no_day(day_of, 1, thing, 1)
            self.assert_no_day(day_of, 1, 1, thing)
            self.assert_no_day(date_of, thing)
            self.assert_no_day(weekday, thing)
            self.assertEqual(thing, same)


class ByTheNamesOfTheInterface(unittest.TestCase):
    def test_arguments_have_the_names_told(self):
        self.assertIs(is_long(year=6), True)
        self.assertEqual(long_before(year=6), 1)
        self.assertEqual(first_week(year=1), 53)
        self.assertEqual(year_of(week=53), 1)
        self.assertEqual(day_of(year=1, week=1, day=1), 371)
        self.assertEqual(date_of(day=371), (1, 1, 1))
        self.assertEqual(weekday(day=371), 1)


if __name__ == "__main__":
    unittest.main()
