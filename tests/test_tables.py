"""Points [14], [15] and [16]: days free by a table, what is refused of it, its open days and its runs."""

import unittest

from calendar_walk import is_free, runs
from limits import AtOnce
from refused import Refusing
from samples import wholes_of_all_sizes, written
from table_samples import BIG, MOVES, ROWS, TURN, bad_rows, bad_weeks, bad_yearlies, moved, some_tables
from termcourt.tables import Table

SOME_DAYS = TURN + 500


def free_days(table, first, last):
    return [day for day in range(first, last + 1) if table.is_free(day)]


def days_near(rows):
    """Days at the ends of rows and of years."""
    ends = [end for first, last, word in rows for end in (first, last)] + [0, 363, 370, 371, 735, TURN]
    return sorted({max(0, end + k) for end in ends for k in (-2, -1, 0, 1, 2)})


class FreeDays(AtOnce):
    def test_by_the_pattern_alone(self):
        for handed in ((), ([],), (None,), ([], []), (None, None), ([], None), (None, [])):
            self.assertEqual(free_days(Table([6, 7], *handed), 0, 20), [5, 6, 12, 13, 19, 20])

    def test_yearly_left_out(self):
        for yearly in (None, []):
            self.assertEqual(free_days(Table([7], yearly, [(1, 2, "free")]), 0, 13), [1, 2, 6, 13])
        self.assertEqual(free_days(Table([7], rows=[(1, 2, "free")]), 0, 13), [1, 2, 6, 13])

    def test_rows_left_out(self):
        for table in (Table([7], [(0, 1)]), Table([7], [(0, 1)], None), Table([7], [(0, 1)], [])):
            self.assertEqual(free_days(table, 0, 13), [0, 1, 6, 13])

    def test_lists_left_out_are_not_shared(self):
        Table([1], None, None).runs(0, 5).append(7)
        self.assertEqual(free_days(Table([]), 0, 800), [])

    def test_a_row_goes_over_weekday_and_day_of_the_year(self):
        table = Table([6, 7], [(7, 9)], [(5, 8, "open"), (1, 1, "free")])
        self.assertEqual(free_days(table, 0, 13), [1, 9, 12, 13])

    def test_the_last_row_with_the_day_says(self):
        rows = [(0, 9, "free"), (2, 7, "open"), (4, 5, "free")]
        self.assertEqual(free_days(Table([], [], rows), 0, 20), [0, 1, 4, 5, 8, 9])
        self.assertEqual(free_days(Table([], [], rows[::-1]), 0, 20), list(range(10)))

    def test_against_the_words_day_by_day(self):
        for week, yearly, rows in some_tables():
            table = Table(week, yearly, rows)
            for day in range(SOME_DAYS):
                self.assertIs(table.is_free(day), is_free(day, week, yearly, rows), (week, yearly, rows, day))

    def test_days_of_many_figures(self):
        for week, yearly, rows in some_tables():
            for move in MOVES:
                laid = moved(rows, move)
                table = Table(week, yearly, laid)
                for day in days_near(rows):
                    self.assertIs(table.is_free(move + day), is_free(move + day, week, yearly, laid))

    def test_rows_at_days_of_each_number_of_figures(self):
        for number in wholes_of_all_sizes(60):
            table = Table([7], [], [(number, number + 39, "free"), (number + 2, number + 3, "open")])
            told = [table.is_free(day) for day in range(number, number + 40)]
            self.assertEqual(told, [True, True, False, False] + [True] * 36)
            self.assertIs(table.is_free(number + 40), (number + 40) % 7 == 6)


class ListsHandedIn(AtOnce):
    def test_they_stay_as_they_were(self):
        for week, yearly, rows in some_tables():
            handed = (list(week), list(yearly), list(rows))
            table = Table(*handed)
            table.is_free(5)
            table.before(500)
            table.nth(500)
            table.next_open(500)
            table.runs(0, 500)
            self.assertEqual(handed, (week, yearly, rows))

    def test_they_may_be_changed_afterwards(self):
        for week, yearly, rows in some_tables():
            handed = (list(week), list(yearly), list(rows))
            table = Table(*handed)
            handed[0].clear()
            handed[0].append(4)
            handed[1].insert(0, (200, 202))
            handed[1].pop()
            handed[2].append((3, 9, "free"))
            handed[2].insert(0, (50, 60, "open"))
            same = Table(week, yearly, rows)
            for day in range(380):
                self.assertIs(table.is_free(day), is_free(day, week, yearly, rows))
                self.assertEqual(table.before(day), same.before(day))
                self.assertEqual(table.nth(day), same.nth(day))
                self.assertEqual(table.next_open(day), same.next_open(day))
            self.assertEqual(table.runs(0, 380), runs(0, 380, week, yearly, rows))


class Refused(Refusing):
    def test_week(self):
        for week, at in bad_weeks():
            self.assert_refused("NoTable", Table, week, part="week", at=at)
            self.assert_refused("NoTable", Table, week, [(0, 5)], [(0, 5, "open")], part="week", at=at)

    def test_yearly(self):
        for yearly, at in bad_yearlies():
            self.assert_refused("NoTable", Table, [], yearly, part="yearly", at=at)
            self.assert_refused("NoTable", Table, [6, 7], yearly, [(0, 5, "open")], part="yearly", at=at)

    def test_rows(self):
        for rows, at in bad_rows():
            self.assert_refused("NoTable", Table, [], [], rows, part="rows", at=at)
            self.assert_refused("NoTable", Table, [6, 7], None, rows, part="rows", at=at)

    def test_week_goes_ahead_of_yearly_ahead_of_rows(self):
        for rows, at in bad_rows()[::9]:
            self.assert_refused("NoTable", Table, [1, 2, 8], None, rows, part="week", at=2)
            self.assert_refused("NoTable", Table, [1, 2, 8], [(5, 4)], rows, part="week", at=2)
            self.assert_refused("NoTable", Table, [1, 2], [(0, 1), (5, 4)], rows, part="yearly", at=1)
        for yearly, at in bad_yearlies()[::9]:
            self.assert_refused("NoTable", Table, [1, 2, 8], yearly, None, part="week", at=2)
            self.assert_refused("NoTable", Table, [], yearly, [(5, 4, "free")], part="yearly", at=at)
        for week, at in bad_weeks():
            self.assert_refused("NoTable", Table, week, [(5, 4)], [(5, 4, "free")], part="week", at=at)

    def test_what_is_refused_is_not_changed(self):
        rows = [(0, 1, "free"), (0, [1], "free")]
        self.assert_refused("NoTable", Table, [], [], rows, part="rows", at=1)
        self.assertEqual(rows, [(0, 1, "free"), (0, [1], "free")])


class Taken(AtOnce):
    def test_forty_days(self):
        for first in (0, 1, 350, BIG):
            table = Table([], [], [(first, first + 39, "free")])
            self.assertEqual(free_days(table, max(0, first - 3), first + 45), list(range(first, first + 40)))

    def test_one_day(self):
        for day in (0, 1, 370, BIG):
            self.assertEqual(free_days(Table([], [], [(day, day, "free")]), max(0, day - 3), day + 3), [day])

    def test_twelve_rows(self):
        table = Table([], [], [(2 * k, 2 * k, "free") for k in range(12)])
        self.assertEqual(free_days(table, 0, 400), list(range(0, 24, 2)))

    def test_six_weekdays_and_four_yearly_stretches(self):
        table = Table([1, 2, 3, 4, 5, 6], [(0, 29), (20, 49), (50, 79), (80, 80)], [(0, 0, "open")])
        self.assertEqual([day for day in range(100) if not table.is_free(day)], [0, 83, 90, 97])

    def test_rows_that_overlap_touch_and_stand_there_twice(self):
        table = Table([], [], [(5, 9, "free"), (5, 9, "free"), (10, 12, "free"), (8, 11, "open"), (11, 11, "free")])
        self.assertEqual(free_days(table, 0, 400), [5, 6, 7, 11, 12])


class OpenDays(AtOnce):
    def test_before_0_there_is_none(self):
        for week, yearly, rows in some_tables():
            self.assertEqual(Table(week, yearly, rows).before(0), 0)

    def test_by_hand(self):
        table = Table([6, 7], [], [(1, 2, "free"), (6, 6, "open")])
        self.assertEqual([table.before(day) for day in range(10)], [0, 1, 1, 1, 2, 3, 3, 4, 5, 6])
        self.assertEqual([table.nth(many) for many in range(7)], [0, 3, 4, 6, 7, 8, 9])
        self.assertEqual([table.next_open(day) for day in range(10)], [0, 3, 3, 3, 4, 6, 6, 7, 8, 9])

    def test_against_counting_day_by_day(self):
        for week, yearly, rows in some_tables():
            table = Table(week, yearly, rows)
            opened = [day for day in range(SOME_DAYS) if not is_free(day, week, yearly, rows)]
            many = 0
            for day in range(opened[-1] + 1):
                self.assertEqual(table.before(day), many, (week, yearly, rows, day))
                self.assertEqual(table.next_open(day), opened[many], (week, yearly, rows, day))
                if day == opened[many]:
                    self.assertEqual(table.nth(many), day, (week, yearly, rows, many))
                    many += 1

    def test_days_of_many_figures_against_turns_of_seventeen_years(self):
        for week, yearly, rows in some_tables():
            in_a_turn = Table(week, yearly).before(TURN)
            near = Table(week, yearly, rows)
            for move in MOVES:
                far = Table(week, yearly, moved(rows, move))
                earlier = move // TURN * in_a_turn
                for day in days_near(rows):
                    self.assertEqual(far.before(move + day), earlier + near.before(day))
                    self.assertEqual(far.next_open(move + day), move + near.next_open(day))
                    many = near.before(day)
                    self.assertEqual(far.nth(earlier + many), move + near.nth(many))

    def test_far_behind_the_rows(self):
        for week, yearly, rows in some_tables():
            table = Table(week, yearly, rows)
            plain = Table(week, yearly)
            behind = 2 * TURN
            more = table.before(behind) - plain.before(behind)
            for number in (behind, BIG, written(60), written(299)):
                self.assertEqual(table.before(number), plain.before(number) + more)
                self.assertEqual(table.nth(number), plain.nth(number - more))
                self.assertEqual(table.next_open(number), plain.next_open(number))

    def test_each_other_reverse(self):
        for week, yearly, rows in some_tables():
            table = Table(week, yearly, rows + moved(rows, BIG)[:12 - len(rows)])
            for number in wholes_of_all_sizes(60)[::3] + [table.before(BIG) + k for k in range(0, 50, 7)]:
                day = table.nth(number)
                self.assertIs(table.is_free(day), False)
                self.assertEqual(table.before(day), number)
                self.assertEqual(table.before(day + 1), number + 1)
                self.assertEqual(table.next_open(day), day)

    def test_the_next_open_day_is_the_first_one(self):
        for week, yearly, rows in some_tables():
            for move in (0, BIG):
                table = Table(week, yearly, moved(rows, move))
                for day in [move + day for day in days_near(rows)]:
                    told = table.next_open(day)
                    self.assertGreaterEqual(told, day)
                    self.assertIs(table.is_free(told), False)
                    self.assertEqual(free_days(table, day, told), list(range(day, told)))

    def test_free_rows_end_to_end(self):
        for move in MOVES:
            table = Table([1, 2, 3, 4, 5, 6], [], [(move + 40 * k, move + 40 * k + 39, "free") for k in range(12)])
            self.assertEqual(table.next_open(move), move + 482)
            self.assertEqual(table.nth(table.before(move)), move + 482)
            self.assertEqual(table.before(move), table.before(move + 482))

    def test_whole_numbers_are_told(self):
        for week, yearly, rows in some_tables():
            table = Table(week, yearly, rows)
            for number in (0, 1, 7, 371, written(60)):
                for told in (table.before(number), table.nth(number), table.next_open(number)):
                    self.assertIs(type(told), int)


class Runs(AtOnce):
    def test_by_hand(self):
        table = Table([6, 7], [], [(1, 2, "free")])
        self.assertEqual(table.runs(0, 8), [(0, 0, False), (1, 2, True), (3, 4, False), (5, 6, True), (7, 8, False)])
        self.assertEqual(table.runs(2, 5), [(2, 2, True), (3, 4, False), (5, 5, True)])

    def test_of_one_day(self):
        table = Table([6, 7], [], [(1, 2, "free")])
        self.assertEqual(table.runs(0, 0), [(0, 0, False)])
        self.assertEqual(table.runs(6, 6), [(6, 6, True)])
        for number in wholes_of_all_sizes(60):
            self.assertEqual(table.runs(number, number), [(number, number, table.is_free(number))])

    def test_a_row_that_touches_free_days_is_one_run_with_them(self):
        table = Table([6, 7], [(7, 8)], [(3, 4, "free"), (9, 10, "free")])
        self.assertEqual(table.runs(0, 11), [(0, 2, False), (3, 10, True), (11, 11, False)])

    def test_over_the_end_of_a_long_year(self):
        table = Table([], [(0, 1), (362, 363)])
        told = [(360, 361, False), (362, 363, True), (364, 370, False), (371, 372, True), (373, 374, False)]
        self.assertEqual(table.runs(360, 374), told)

    def test_over_the_end_of_a_short_year(self):
        table = Table([], [(0, 1), (362, 363)])
        self.assertEqual(table.runs(732, 738), [(732, 732, False), (733, 736, True), (737, 738, False)])

    def test_where_last_is_less_than_first(self):
        for week, yearly, rows in some_tables():
            table = Table(week, yearly, rows)
            for first, last in ((1, 0), (7, 0), (500, 499), (BIG, BIG - 1), (BIG, 0), (written(300), 5)):
                self.assertEqual(table.runs(first, last), [])

    def test_against_the_words_day_by_day(self):
        for week, yearly, rows in some_tables():
            table = Table(week, yearly, rows)
            for first, last in ((0, 0), (0, 800), (3, 380), (360, 380), (5900, 6700)):
                self.assertEqual(table.runs(first, last), runs(first, last, week, yearly, rows))

    def test_of_five_thousand_days(self):
        for week, yearly, rows in some_tables():
            table = Table(week, yearly, rows)
            for first in (0, 1234):
                told = table.runs(first, first + 4999)
                self.assertEqual(told, runs(first, first + 4999, week, yearly, rows))
        self.assertEqual(Table([]).runs(0, 4999), [(0, 4999, False)])

    def test_days_of_many_figures(self):
        for week, yearly, rows in some_tables():
            for move in MOVES:
                laid = moved(rows, move)
                table = Table(week, yearly, laid)
                for first, last in ((0, 60), (340, 420), (6190, 6230)):
                    told = table.runs(move + first, move + last)
                    self.assertEqual(told, runs(move + first, move + last, week, yearly, laid))
        table = Table([7], [(0, 29)], [(BIG, BIG + 9, "free")])
        self.assertEqual(table.runs(BIG, BIG + 4999), runs(BIG, BIG + 4999, [7], [(0, 29)], [(BIG, BIG + 9, "free")]))

    def test_end_to_end_and_neighbours_unlike(self):
        for week, yearly, rows in some_tables():
            told = Table(week, yearly, rows).runs(2, 1500)
            self.assertEqual((told[0][0], told[-1][1]), (2, 1500))
            for earlier, later in zip(told, told[1:]):
                self.assertEqual(earlier[1] + 1, later[0])
                self.assertIs(earlier[2], not later[2])

    def test_a_list_of_tuples_of_two_numbers_and_a_truth(self):
        told = Table([6, 7], [], ROWS[3]).runs(0, 60)
        self.assertIs(type(told), list)
        for run in told:
            self.assertIs(type(run), tuple)
            self.assertEqual([type(part) for part in run], [int, int, bool])

    def test_the_list_told_is_the_askers_own(self):
        table = Table([6, 7], [], [(1, 2, "free")])
        told = table.runs(0, 8)
        same = list(told)
        again = table.runs(0, 8)
        self.assertIsNot(told, again)
        told.clear()
        told.append((3, 3, True))
        self.assertEqual(again, same)
        self.assertEqual(table.runs(0, 8), same)
        none = table.runs(1, 0)
        none.append((0, 0, True))
        self.assertEqual(table.runs(1, 0), [])


class ByTheNamesOfTheInterface(unittest.TestCase):
    def test_arguments_have_the_names_told(self):
        table = Table(week=[6, 7], yearly=[(0, 0)], rows=[(1, 2, "free")])
        self.assertIs(table.is_free(day=0), True)
        self.assertEqual(table.before(day=4), 1)
        self.assertEqual(table.nth(many=0), 3)
        self.assertEqual(table.next_open(day=0), 3)
        self.assertEqual(table.runs(first=2, last=3), [(2, 2, True), (3, 3, False)])


if __name__ == "__main__":
    unittest.main()
