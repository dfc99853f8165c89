"""Point [17]: the three kinds of counting."""

import unittest

from calendar_walk import free_by
from limits import AtOnce
from samples import wholes_of_all_sizes, written
from table_samples import BIG, MOVES, TURN, moved, some_tables
from termcourt.kinds import Counting, CourtDays, Weeks, kind_of
from termcourt.tables import Table

CLASSES = (("days", Counting), ("weeks", Weeks), ("court", CourtDays))
FIRSTS = (0, 1, 6, 355, 371, 499, 6190)
SPAN = 45


def both_makings(table):
    """Tuples (unit, object): each kind made by its class, and by kind_of."""
    return [(unit, made) for unit, kind in CLASSES for made in (kind(table), kind_of(unit, table))]


def near_and_far():
    """Tuples (kind, the same kind by a table whose rows lie so many days later, the number of these days)."""
    for week, yearly, rows in some_tables():
        near = both_makings(Table(week, yearly, rows))
        for move in MOVES:
            far = both_makings(Table(week, yearly, moved(rows, move)))
            for (unit, one), (same, other) in zip(near, far):
                yield one, other, move


def counted_days(unit, free, first, last):
    return [day for day in range(first, last + 1) if unit != "court" or not free(day)]


class Making(unittest.TestCase):
    def test_the_classes(self):
        table = Table([6, 7])
        for unit, kind in CLASSES:
            self.assertIs(type(kind_of(unit, table)), kind)
            self.assertIs(type(kind(table)), kind)

    def test_two_stand_under_the_first(self):
        self.assertEqual((Weeks.__bases__, CourtDays.__bases__), ((Counting,), (Counting,)))
        for unit, made in both_makings(Table([])):
            self.assertIsInstance(made, Counting)

    def test_the_table_is_a_field(self):
        for week, yearly, rows in some_tables():
            table = Table(week, yearly, rows)
            for unit, made in both_makings(table):
                self.assertIs(made.table, table)

    def test_each_has_its_own_table(self):
        one = Table([6, 7])
        other = Table([1])
        for unit, kind in CLASSES:
            kinds = [kind(one), kind(other), kind_of(unit, one), kind_of(unit, other)]
            for made, table in zip(kinds, [one, other, one, other]):
                self.assertIs(made.table, table)


class DaysFor(AtOnce):
    def test_by_hand(self):
        for unit, told in (("days", [1, 2, 7, 40]), ("weeks", [7, 14, 49, 280]), ("court", [1, 2, 7, 40])):
            for made in [made for name, made in both_makings(Table([6, 7], [(0, 29)])) if name == unit]:
                self.assertEqual([made.days_for(units) for units in (1, 2, 7, 40)], told)

    def test_units_of_all_sizes(self):
        for unit, made in both_makings(Table([6, 7])):
            each = 7 if unit == "weeks" else 1
            for units in wholes_of_all_sizes():
                self.assertEqual(made.days_for(units), each * units)

    def test_the_table_does_not_matter(self):
        for week, yearly, rows in some_tables():
            for unit, made in both_makings(Table(week, yearly, rows)):
                self.assertEqual(made.days_for(3), 21 if unit == "weeks" else 3)


class CountsDay(AtOnce):
    def test_by_hand(self):
        table = Table([6, 7], [(0, 0)], [(2, 2, "free"), (5, 5, "open")])
        for unit, made in both_makings(table):
            told = [made.counts_day(day) for day in range(8)]
            if unit == "court":
                self.assertEqual(told, [False, True, False, True, True, True, False, True])
            else:
                self.assertEqual(told, [True] * 8)

    def test_against_the_table_day_by_day(self):
        for week, yearly, rows in some_tables():
            free = free_by(week, yearly, rows)
            for unit, made in both_makings(Table(week, yearly, rows)):
                for day in range(0, 800):
                    self.assertIs(made.counts_day(day), unit != "court" or not free(day))

    def test_days_of_many_figures(self):
        for week, yearly, rows in some_tables():
            for move in MOVES:
                laid = moved(rows, move)
                free = free_by(week, yearly, laid)
                for unit, made in both_makings(Table(week, yearly, laid)):
                    for day in range(move + 360, move + 380):
                        self.assertIs(made.counts_day(day), unit != "court" or not free(day))


class CountedIn(AtOnce):
    def test_by_hand(self):
        table = Table([6, 7], [], [(8, 8, "free")])
        for unit, made in both_makings(table):
            court = unit == "court"
            self.assertEqual(made.counted_in(0, 6), 5 if court else 7)
            self.assertEqual(made.counted_in(0, 13), 9 if court else 14)
            self.assertEqual(made.counted_in(4, 7), 2 if court else 4)
            self.assertEqual(made.counted_in(5, 6), 0 if court else 2)

    def test_of_one_day(self):
        table = Table([6, 7], [], [(8, 8, "free")])
        for unit, made in both_makings(table):
            for day in range(20):
                free = unit == "court" and (day % 7 >= 5 or day == 8)
                self.assertEqual(made.counted_in(day, day), 0 if free else 1)
            for number in wholes_of_all_sizes():
                free = unit == "court" and (number % 7 >= 5 or number == 8)
                self.assertEqual(made.counted_in(number, number), 0 if free else 1)

    def test_nought_where_last_is_less_than_first(self):
        for week, yearly, rows in some_tables():
            for unit, made in both_makings(Table(week, yearly, rows)):
                for first, last in ((1, 0), (2, 0), (0, -1), (0, -2), (7, -1), (6, 4), (500, 498), (500, 7),
                                    (BIG, BIG - 1), (BIG, BIG - 2), (BIG, 0), (written(300), 5), (written(300), -1)):
                    self.assertEqual(made.counted_in(first, last), 0)

    def test_against_counting_day_by_day(self):
        for week, yearly, rows in some_tables():
            free = free_by(week, yearly, rows)
            for unit, made in both_makings(Table(week, yearly, rows)):
                for first in FIRSTS:
                    many = 0
                    for last in range(first, first + SPAN):
                        many += 1 if unit != "court" or not free(last) else 0
                        self.assertEqual(made.counted_in(first, last), many, (unit, week, yearly, rows, first, last))

    def test_days_of_many_figures(self):
        for near, far, move in near_and_far():
            for first in FIRSTS:
                told = far.counted_in(first + move, first + move + SPAN)
                self.assertEqual(told, near.counted_in(first, first + SPAN))

    def test_very_many_days(self):
        for week, yearly, rows in some_tables():
            free = free_by(week, yearly)
            opened = len([day for day in range(TURN) if not free(day)])
            for unit, made in both_makings(Table(week, yearly)):
                in_a_turn = opened if unit == "court" else TURN
                for move in MOVES:
                    self.assertEqual(made.counted_in(0, move - 1), move // TURN * in_a_turn)
                    self.assertEqual(made.counted_in(500, 499 + move), move // TURN * in_a_turn)


class Reach(AtOnce):
    def test_by_hand(self):
        table = Table([6, 7], [], [(8, 8, "free")])
        for unit, made in both_makings(table):
            court = unit == "court"
            self.assertEqual([made.reach(0, many) for many in (1, 5, 6, 7)], [0, 4, 7, 9] if court else [0, 4, 5, 6])
            self.assertEqual([made.reach(5, many) for many in (1, 2, 3)], [7, 9, 10] if court else [5, 6, 7])

    def test_one_day_is_the_first_that_counts(self):
        for week, yearly, rows in some_tables():
            free = free_by(week, yearly, rows)
            for unit, made in both_makings(Table(week, yearly, rows)):
                for first in FIRSTS:
                    day = first
                    while unit == "court" and free(day):
                        day += 1
                    self.assertEqual(made.reach(first, 1), day)

    def test_against_counting_day_by_day(self):
        for week, yearly, rows in some_tables():
            free = free_by(week, yearly, rows)
            for unit, made in both_makings(Table(week, yearly, rows)):
                for first in FIRSTS:
                    days = counted_days(unit, free, first, first + SPAN)
                    told = [made.reach(first, many + 1) for many in range(len(days))]
                    self.assertEqual(told, days, (unit, week, yearly, rows, first))

    def test_agrees_with_counted_in(self):
        for week, yearly, rows in some_tables():
            for unit, made in both_makings(Table(week, yearly, rows)):
                for first in (0, 5, 371, written(30), BIG + 3, written(60), written(300)):
                    for many in (1, 2, 40, 5000, written(30), written(60), written(300)):
                        day = made.reach(first, many)
                        self.assertIs(made.counts_day(day), True)
                        self.assertEqual(made.counted_in(first, day), many)
                        self.assertEqual(made.counted_in(first, day - 1), many - 1)

    def test_days_of_many_figures(self):
        for near, far, move in near_and_far():
            for first in FIRSTS:
                for many in (1, 2, 30):
                    self.assertEqual(far.reach(first + move, many), near.reach(first, many) + move)

    def test_numbers_of_up_to_sixty_figures(self):
        for first in (0, 1, 371, written(60)):
            for unit, made in both_makings(Table([])):
                for many in wholes_of_all_sizes(60)[1:]:
                    self.assertEqual(made.reach(first, many), first + many - 1)


class KindsOfTwoTables(AtOnce):
    def test_asked_in_turn(self):
        one = kind_of("court", Table([6, 7]))
        other = kind_of("court", Table([1, 2], [], [(5, 5, "free")]))
        for turn in range(3):
            self.assertEqual([one.counts_day(day) for day in range(7)], [True] * 5 + [False] * 2)
            self.assertEqual([other.counts_day(day) for day in range(7)], [False] * 2 + [True] * 3 + [False, True])
            self.assertEqual((one.counted_in(0, 6), other.counted_in(0, 6)), (5, 4))
            self.assertEqual((one.reach(0, 5), other.reach(0, 5)), (4, 9))
            self.assertEqual((one.reach(0, 6), other.reach(0, 6)), (7, 10))

    def test_of_one_table_several_units(self):
        table = Table([6, 7])
        made = dict(both_makings(table))
        for turn in range(2):
            self.assertEqual([made[unit].days_for(2) for unit, kind in CLASSES], [2, 14, 2])
            self.assertEqual([made[unit].reach(5, 1) for unit, kind in CLASSES], [5, 5, 7])


class WhatIsTold(AtOnce):
    def test_numbers_and_truths(self):
        for unit, made in both_makings(Table([6, 7])):
            for number in (1, 5, 6, 7, written(60)):
                self.assertIs(type(made.counts_day(number)), bool)
                told = (made.days_for(number), made.counted_in(3, number), made.counted_in(number, 3),
                        made.reach(number, 2), made.reach(2, number))
                self.assertEqual([type(thing) for thing in told], [int] * 5)

    def test_arguments_have_the_names_told(self):
        table = Table([6, 7])
        for made in (Counting(table=table), Weeks(table=table), CourtDays(table=table),
                     kind_of(unit="court", table=table)):
            self.assertEqual(made.days_for(units=7) % 7, 0)
            self.assertIs(made.counts_day(day=1), True)
            self.assertEqual(made.counted_in(first=0, last=3), 4)
            self.assertEqual(made.reach(first=0, many=3), 2)


if __name__ == "__main__":
    unittest.main()
