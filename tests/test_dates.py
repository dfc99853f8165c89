"""Points [8] and [9]: days written as dates, and dates read."""

import unittest

from limits import AtOnce
from refused import Refusing
from samples import not_wholes, wholes_of_all_sizes, written
from termcourt.dates import read_date, show_date
from termcourt.days import date_of, day_of
from termcourt.wholes import is_whole

LEAST_OF_SIXTY = 10 ** 59
GREATEST_OF_SIXTY = 10 ** 60 - 1
DATES = ("0-1-1", "0-53-7", "1-1-1", "1-52-7", "6-53-1", "10-10-2", "100-20-3", "20300-5-6", "9" * 60 + "-1-1")
BAD_SIGNS = ("+", "-", " ", "\t", "\n", "\r", "a", "e", "x", "Z", "_", ".", ",", "/", ":", "'", '"', "(", "~", "--")


def weeks_of(year):
    return 53 if year % 17 in (0, 6, 12) else 52


def some_years():
    return list(range(40)) + wholes_of_all_sizes(60)


class Writing(Refusing):
    def test_the_days_that_the_document_names(self):
        self.assertEqual(show_date(0), "0-1-1")
        self.assertEqual(show_date(7), "0-2-1")
        self.assertEqual(show_date(371), "1-1-1")

    def test_first_and_last_days_of_weeks(self):
        self.assertEqual(show_date(6), "0-1-7")
        self.assertEqual(show_date(13), "0-2-7")
        self.assertEqual(show_date(63), "0-10-1")
        self.assertEqual(show_date(69), "0-10-7")

    def test_first_and_last_days_of_years(self):
        self.assertEqual(show_date(370), "0-53-7")
        self.assertEqual(show_date(371 + 363), "1-52-7")
        self.assertEqual(show_date(371 + 364), "2-1-1")
        self.assertEqual(show_date(6208), "16-52-7")
        self.assertEqual(show_date(6209), "17-1-1")
        self.assertEqual(show_date(6209 + 370), "17-53-7")
        self.assertEqual(show_date(6209 + 371), "18-1-1")

    def test_years_of_up_to_sixty_figures(self):
        for year in some_years():
            for week in (1, 9, 10, 52, weeks_of(year)):
                for day in (1, 2, 7):
                    self.assertEqual(show_date(day_of(year, week, day)), f"{year}-{week}-{day}")

    def test_days_one_after_another(self):
        for day in range(7000):
            year, week, day_in_week = date_of(day)
            self.assertEqual(show_date(day), str(year) + "-" + str(week) + "-" + str(day_in_week))

    def test_what_is_written_is_a_text(self):
        for day in (0, 7, 371, written(60)):
            self.assertIs(type(show_date(day)), str)

    def test_what_is_no_day_is_refused(self):
        for thing in not_wholes():
            self.assert_refused("NoDay", show_date, thing)
        for day in [1, 2, 7, 371, 6209] + wholes_of_all_sizes()[1:]:
            self.assert_refused("NoDay", show_date, -day)

    def test_by_the_name_of_the_interface(self):
        self.assertEqual(show_date(day=371), "1-1-1")


class Reading(AtOnce, Refusing):
    def assert_no_date(self, text):
        self.assert_refused("NoDay", read_date, text)

    def test_ordinary_dates(self):
        self.assertEqual(read_date("0-1-1"), 0)
        self.assertEqual(read_date("0-2-1"), 7)
        self.assertEqual(read_date("0-53-7"), 370)
        self.assertEqual(read_date("1-1-1"), 371)
        self.assertEqual(read_date("10-10-2"), day_of(10, 10, 2))
        self.assertEqual(read_date("17-1-1"), 6209)

    def test_what_is_written_is_read_to_the_same_day(self):
        for day in range(7000):
            self.assertEqual(read_date(show_date(day)), day)
        for year in some_years():
            first = day_of(year, 1, 1)
            for day in (first, first + 6, first + 7, first + 363, first + 7 * weeks_of(year) - 1):
                self.assertEqual(read_date(show_date(day)), day)

    def test_years_of_sixty_figures_are_read(self):
        for year in (LEAST_OF_SIXTY, written(60), GREATEST_OF_SIXTY):
            self.assertEqual(len(str(year)), 60)
            for week in (1, weeks_of(year)):
                self.assertEqual(read_date(f"{year}-{week}-7"), day_of(year, week, 7))

    def test_the_year_0_is_read(self):
        for week in range(1, 54):
            for day in range(1, 8):
                self.assertEqual(read_date(f"0-{week}-{day}"), 7 * week - 7 + day - 1)

    def test_a_day_is_a_whole_number(self):
        for text in DATES:
            self.assertTrue(is_whole(read_date(text)))

    def test_no_text_at_all(self):
        for thing in not_wholes():
            if not isinstance(thing, str):
                self.assert_no_date(thing)
        for thing in (0, 1, 371, -1, 10 ** 299, ["0-1-1"], ("0-1-1",), ["0", "1", "1"], (0, 1, 1), b"0-1-1"):
            self.assert_no_date(thing)

    def test_the_text_without_signs(self):
        self.assert_no_date("")

    def test_noughts_in_front(self):
        for text in ("00-1-1", "01-1-1", "1-01-1", "1-1-01", "000-1-1", "0-01-1", "0-1-01", "010-10-2", "1-010-1",
                     "1-001-1", "1-1-001", "0" * 59 + "1-1-1", "0" * 60 + "-1-1", "0" * 61 + "-1-1",
                     "0" * 5000 + "-1-1", "1-" + "0" * 5000 + "1-1", "1-1-" + "0" * 5000 + "1"):
            self.assert_no_date(text)

    def test_a_sign_too_many_at_each_place(self):
        for text in DATES:
            for sign in BAD_SIGNS:
                for at in range(len(text) + 1):
                    self.assert_no_date(text[:at] + sign + text[at:])

    def test_another_sign_in_the_place_of_one(self):
        for text in DATES:
            for sign in BAD_SIGNS:
                for at in range(len(text)):
                    changed = text[:at] + sign + text[at + 1:]
                    if changed != text:
                        self.assert_no_date(changed)

    def test_several_signs_too_many(self):
        for text in (" 0-1-1 ", "0 - 1 - 1", "+0-+1-+1", "0--1--1", "-0-1-1-", "\n0-1-1\n", "1_0-1-1", "1_000-1-1"):
            self.assert_no_date(text)

    def test_too_few_parts(self):
        for text in ("0", "1", "371", "0-1", "1-52", "a", "year", "1 1 1", "1.1.1", "1/1/1", "9" * 60):
            self.assert_no_date(text)

    def test_too_many_parts(self):
        for text in ("0-1-1-1", "1-1-1-1-1", "0-1-1-", "-0-1-1", "0-1-1--", "1-" * 1000 + "1"):
            self.assert_no_date(text)

    def test_a_part_without_signs(self):
        for text in ("-", "--", "---", "-1-1", "1--1", "1-1-", "--1", "1--", "-1-", "-" * 5000):
            self.assert_no_date(text)

    def test_weeks_that_are_not_there(self):
        for year in list(range(40)) + [written(60), GREATEST_OF_SIXTY]:
            for week in (0, weeks_of(year) + 1, 54, 55, 60, 99, 100, 520, 10 ** 59, 10 ** 60, 10 ** 299):
                self.assert_no_date(f"{year}-{week}-1")

    def test_week_53_is_there_in_long_years_alone(self):
        for year in range(40):
            if weeks_of(year) == 53:
                self.assertEqual(read_date(f"{year}-53-7"), day_of(year, 53, 7))
            else:
                self.assert_no_date(f"{year}-53-7")

    def test_days_that_are_not_there(self):
        for year in (0, 1, 6, 17, written(60)):
            for day in (0, 8, 9, 10, 11, 17, 70, 77, 10 ** 59, 10 ** 60, 10 ** 299):
                self.assert_no_date(f"{year}-1-{day}")

    def test_years_of_more_than_sixty_figures(self):
        for year in (10 ** 60, 10 ** 60 + 1, 10 ** 61 - 1, written(61), written(62), written(100), written(300)):
            self.assert_no_date(f"{year}-1-1")
            self.assert_no_date(f"{year}-52-7")

    def test_texts_of_thousands_of_signs(self):
        for length in (4300, 4301, 5000, 100000):
            for sign in "190 a_+-\n\t":
                many = sign * length
                for text in (many, f"{many}-1-1", f"1-{many}-1", f"1-1-{many}", f"{many}-{many}-{many}"):
                    self.assert_no_date(text)
            self.assert_no_date("1" + "0" * length + "-1-1")
            self.assert_no_date("0-1-1" + " " * length)
            self.assert_no_date("0-1-1\n" * length)

    def test_what_is_refused_is_not_changed(self):
        thing = ["0-1-1", [1]]
        self.assert_no_date(thing)
        self.assert_refused("NoDay", show_date, thing)
        self.assertEqual(thing, ["0-1-1", [1]])

    def test_by_the_name_of_the_interface(self):
        self.assertEqual(read_date(text="1-1-1"), 371)


if __name__ == "__main__":
    unittest.main()
