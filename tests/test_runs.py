"""One run and those that it hangs on: points [30] to [32]."""

import unittest

from book_samples import behind_rule, from_rule, rule_with
from history_samples import FELT, full_rule
from limits import AtOnce
from samples import written
from table_samples import BIG, TURN
from termcourt.runs import Run
from termcourt.tables import Table

PLAIN = Table([])
ENDS_OF_WEEKS = Table([6, 7])


def begun(many=10, unit="days", day=100, table=PLAIN):
    """A run of a rule with a kind of each role, begun by the act one."""
    return Run(full_rule(many=many, unit=unit), table, "one", day)


def chain(deep, day=100, table=PLAIN):
    """A run of ten days and those that hang on it, one on another, all begun by the act one."""
    runs = [begun(day=day, table=table)]
    for name in "bcdefghij"[:deep - 1]:
        runs.append(Run(full_rule(name, base=runs[-1].rule.name), table, "one", day, runs[-1]))
    return runs


def feel_all(runs, name, day, kind):
    """All feel the act, in the order of hanging; told is what each of them answers."""
    return [run.feel(name, day, kind) for run in runs]


class OneRun(unittest.TestCase):
    def assert_account(self, run, word, start, units, pauses, last, rows):
        """The account, and what is asked of the run itself; rows behind the first one, which is of day 100."""
        told = run.account()
        self.assertEqual(told, ("one", word, start, units, pauses, last, [("one", 100, "begins")] + rows))
        self.assertEqual((run.starts_on(), run.lasts_to()), (start, last))
        self.assertIs(run.is_over(), word == "over")

    def assert_felt(self, run, name, day, kind):
        self.assertIs(run.feel(name, day, kind), True)

    def assert_not_felt(self, run, name, day, kind):
        """The act does nothing: the account stays as it was."""
        before = run.account()
        self.assertIs(run.feel(name, day, kind), False)
        self.assertEqual(run.account(), before)


class Begun(OneRun):
    def test_days_weeks_and_court_days(self):
        self.assert_account(begun(), "runs", 100, 10, [], 110, [])
        self.assert_account(begun(2, "weeks"), "runs", 100, 2, [], 114, [])
        self.assert_account(begun(10, "court"), "runs", 100, 10, [], 110, [])
        # Day 100 is the weekday 3, so days 103 and 104 are free.
        self.assert_account(begun(3, table=ENDS_OF_WEEKS), "runs", 100, 3, [], 105, [])
        self.assert_account(begun(3, "court", table=ENDS_OF_WEEKS), "runs", 100, 3, [], 105, [])
        self.assert_account(begun(5, "court", table=ENDS_OF_WEEKS), "runs", 100, 5, [], 107, [])

    def test_the_name_of_the_act_and_the_day(self):
        run = Run(from_rule("a"), PLAIN, "zz", 0)
        self.assertEqual(run.account(), ("zz", "runs", 0, 10, [], 10, [("zz", 0, "begins")]))

    def test_acts_of_other_kinds(self):
        for day in (100, 105, 110, 111, 500):
            for kind in ("claim", "x", "one", "a", "buyer", "nothing", "begins", "still", "ends", ""):
                self.assert_not_felt(begun(), "x", day, kind)

    def test_kinds_of_a_rule_without_more_rows(self):
        for kind in FELT:
            self.assert_not_felt(Run(from_rule("a"), PLAIN, "one", 100), "x", 105, kind)

    def test_arguments_have_the_names_told(self):
        base = Run(rule=from_rule("a"), table=PLAIN, name="one", day=100)
        run = Run(rule=behind_rule("b", "a"), table=PLAIN, name="one", day=100, base=base)
        self.assertEqual((run.starts_on(), run.lasts_to()), (110, 120))
        self.assertIs(run.feel(name="x", day=105, kind="reply"), True)
        self.assertEqual(Run(from_rule("a"), PLAIN, "one", 100, None).starts_on(), 100)
        self.assertEqual(Run(from_rule("a"), PLAIN, "one", 100, base=None).starts_on(), 100)


class Longer(OneRun):
    def test_up_to_the_told_times_and_no_more(self):
        run = begun()
        self.assert_felt(run, "b", 105, "grant")
        self.assert_account(run, "runs", 100, 15, [], 115, [("b", 105, "longer")])
        self.assert_felt(run, "c", 112, "grant")
        self.assert_account(run, "runs", 100, 20, [], 120, [("b", 105, "longer"), ("c", 112, "longer")])
        self.assert_not_felt(run, "d", 113, "grant")
        self.assert_not_felt(run, "e", 120, "grant")

    def test_each_kind_has_its_own_times(self):
        run = begun()
        self.assert_felt(run, "b", 101, "favour")
        self.assert_account(run, "runs", 100, 13, [], 113, [("b", 101, "longer")])
        self.assert_not_felt(run, "c", 102, "favour")
        self.assert_felt(run, "d", 103, "grant")
        self.assert_felt(run, "e", 103, "grant")
        self.assert_not_felt(run, "f", 104, "grant")
        rows = [("b", 101, "longer"), ("d", 103, "longer"), ("e", 103, "longer")]
        self.assert_account(run, "runs", 100, 23, [], 123, rows)

    def test_one_two_and_three_times(self):
        for times in (1, 2, 3):
            run = Run(rule_with(from_rule("a"), longer=[("grant", 20, times)]), PLAIN, "one", 100)
            felt = [run.feel(name, 105, "grant") for name in ("b", "c", "d", "e", "f")]
            self.assertEqual(felt, [True] * times + [False] * (5 - times))
            self.assertEqual(run.lasts_to(), 110 + 20 * times)

    def test_units_are_of_the_terms_own_sort(self):
        run = begun(2, "weeks")
        self.assert_felt(run, "b", 105, "grant")
        self.assert_account(run, "runs", 100, 7, [], 149, [("b", 105, "longer")])
        run = begun(2, "court", table=ENDS_OF_WEEKS)
        self.assert_felt(run, "b", 101, "grant")
        self.assert_account(run, "runs", 100, 7, [], 109, [("b", 101, "longer")])

    def test_while_it_stands_still(self):
        run = begun()
        self.assert_felt(run, "b", 105, "halt")
        self.assert_felt(run, "c", 300, "grant")
        self.assert_account(run, "stands", 100, 15, [(105, None)], None, [("b", 105, "still"), ("c", 300, "longer")])

    def test_anew_and_then_again(self):
        run = begun()
        for name in ("b", "c"):
            self.assert_felt(run, name, 103, "grant")
        self.assert_not_felt(run, "d", 103, "grant")
        self.assert_felt(run, "e", 104, "serve")
        rows = [("b", 103, "longer"), ("c", 103, "longer"), ("e", 104, "anew")]
        self.assert_account(run, "runs", 104, 10, [], 114, rows)
        for name in ("f", "g"):
            self.assert_felt(run, name, 105, "grant")
        self.assert_not_felt(run, "h", 105, "grant")
        rows += [("f", 105, "longer"), ("g", 105, "longer")]
        self.assert_account(run, "runs", 104, 20, [], 124, rows)


class Still(OneRun):
    def test_one_that_goes_on(self):
        run = begun()
        self.assert_felt(run, "b", 105, "halt")
        self.assert_account(run, "stands", 100, 10, [(105, None)], None, [("b", 105, "still")])
        self.assert_not_felt(run, "c", 105, "halt")
        self.assert_not_felt(run, "d", 107, "halt")
        self.assert_not_felt(run, "e", 9999, "halt")

    def test_one_that_has_ended(self):
        run = begun()
        self.assert_felt(run, "b", 105, "halt")
        self.assert_felt(run, "c", 120, "resume")
        self.assert_account(run, "runs", 100, 10, [(105, 119)], 125, [("b", 105, "still"), ("c", 120, "goes on")])
        self.assert_not_felt(run, "d", 120, "resume")
        self.assert_not_felt(run, "e", 121, "resume")

    def test_none_to_end(self):
        self.assert_not_felt(begun(), "b", 105, "resume")

    def test_of_one_day(self):
        run = begun()
        self.assert_felt(run, "b", 105, "halt")
        self.assert_felt(run, "c", 106, "resume")
        self.assert_account(run, "runs", 100, 10, [(105, 105)], 111, [("b", 105, "still"), ("c", 106, "goes on")])

    def test_one_that_is_gone_because_it_ends_on_the_day_it_began(self):
        run = begun()
        self.assert_felt(run, "b", 105, "halt")
        self.assert_felt(run, "c", 105, "resume")
        rows = [("b", 105, "still"), ("c", 105, "goes on")]
        self.assert_account(run, "runs", 100, 10, [], 110, rows)
        self.assert_felt(run, "d", 105, "halt")
        self.assert_account(run, "stands", 100, 10, [(105, None)], None, rows + [("d", 105, "still")])
        self.assert_felt(run, "e", 107, "resume")
        rows += [("d", 105, "still"), ("e", 107, "goes on")]
        self.assert_account(run, "runs", 100, 10, [(105, 106)], 112, rows)

    def test_two_that_touch_stay_two(self):
        run = begun()
        self.assert_felt(run, "b", 103, "halt")
        self.assert_felt(run, "c", 105, "resume")
        self.assert_felt(run, "d", 105, "halt")
        rows = [("b", 103, "still"), ("c", 105, "goes on"), ("d", 105, "still")]
        self.assert_account(run, "stands", 100, 10, [(103, 104), (105, None)], None, rows)
        self.assert_felt(run, "e", 108, "resume")
        self.assert_account(run, "runs", 100, 10, [(103, 104), (105, 107)], 115, rows + [("e", 108, "goes on")])

    def test_a_gone_one_leaves_those_before_it(self):
        run = begun()
        for name, day, kind in (("b", 103, "halt"), ("c", 105, "resume"), ("d", 107, "halt"), ("e", 107, "resume")):
            self.assert_felt(run, name, day, kind)
        rows = [("b", 103, "still"), ("c", 105, "goes on"), ("d", 107, "still"), ("e", 107, "goes on")]
        self.assert_account(run, "runs", 100, 10, [(103, 104)], 112, rows)

    def test_from_the_last_day_on(self):
        run = begun()
        self.assert_felt(run, "b", 110, "halt")
        self.assert_felt(run, "c", 200, "resume")
        self.assert_account(run, "runs", 100, 10, [(110, 199)], 200, [("b", 110, "still"), ("c", 200, "goes on")])

    def test_from_the_last_day_on_that_waited_for_an_open_one(self):
        # It is full on day 103, and waits for day 105.
        for day in (103, 104, 105):
            run = begun(3, table=ENDS_OF_WEEKS)
            self.assert_felt(run, "b", day, "halt")
            self.assert_account(run, "stands", 100, 3, [(day, None)], None, [("b", day, "still")])
            self.assert_felt(run, "c", 106, "resume")
            self.assertEqual(run.lasts_to(), 106)

    def test_several(self):
        run = begun()
        for k in range(8):
            self.assert_felt(run, "b", 101 + 3 * k, "halt")
            self.assert_felt(run, "c", 103 + 3 * k, "resume")
        self.assertEqual(run.account()[4], [(101 + 3 * k, 102 + 3 * k) for k in range(8)])
        self.assertEqual(run.lasts_to(), 126)
        self.assertEqual([word for name, day, word in run.account()[6]], ["begins"] + ["still", "goes on"] * 8)


class Anew(OneRun):
    def test_start_units_and_pauses(self):
        run = begun()
        self.assert_felt(run, "b", 102, "halt")
        self.assert_felt(run, "c", 104, "resume")
        self.assert_felt(run, "d", 105, "grant")
        self.assert_felt(run, "e", 106, "serve")
        rows = [("b", 102, "still"), ("c", 104, "goes on"), ("d", 105, "longer"), ("e", 106, "anew")]
        self.assert_account(run, "runs", 106, 10, [], 116, rows)

    def test_while_it_stands_still(self):
        run = begun()
        self.assert_felt(run, "b", 102, "halt")
        self.assert_felt(run, "c", 150, "serve")
        self.assert_account(run, "runs", 150, 10, [], 160, [("b", 102, "still"), ("c", 150, "anew")])
        self.assert_not_felt(run, "d", 151, "resume")
        self.assert_felt(run, "e", 151, "halt")

    def test_again_and_again(self):
        run = begun()
        for day in (101, 111, 115):
            self.assert_felt(run, "b", day, "serve")
            self.assert_not_felt(run, "c", day, "serve")
            self.assertEqual((run.starts_on(), run.lasts_to()), (day, day + 10))
        self.assertEqual(run.account()[0], "one")
        self.assertEqual(run.account()[6][0], ("one", 100, "begins"))


class Over(OneRun):
    def test_by_the_kind_due_and_by_a_kind_of_an_ends_row(self):
        for kind in ("reply", "drop"):
            for day in (100, 101, 105, 110, 111, 5000):
                run = begun()
                self.assert_felt(run, "b", day, kind)
                self.assert_account(run, "over", 100, 10, [], 110, [("b", day, "ends")])

    def test_by_a_day_earlier_than_its_start(self):
        for kind in ("reply", "drop"):
            runs = chain(2)
            self.assertIs(runs[1].feel("b", 104, kind), True)
            told = ("one", "over", 110, 10, [], 120, [("one", 100, "begins"), ("b", 104, "ends")])
            self.assertEqual(runs[1].account(), told)

    def test_while_it_stands_still(self):
        for kind in ("reply", "drop"):
            run = begun()
            self.assert_felt(run, "b", 105, "halt")
            self.assert_felt(run, "c", 120, kind)
            self.assert_account(run, "over", 100, 10, [(105, 119)], 125, [("b", 105, "still"), ("c", 120, "ends")])

    def test_on_the_day_on_which_a_pause_began(self):
        run = begun()
        self.assert_felt(run, "b", 102, "halt")
        self.assert_felt(run, "c", 103, "resume")
        self.assert_felt(run, "d", 105, "halt")
        self.assert_felt(run, "e", 105, "reply")
        rows = [("b", 102, "still"), ("c", 103, "goes on"), ("d", 105, "still"), ("e", 105, "ends")]
        self.assert_account(run, "over", 100, 10, [(102, 102)], 111, rows)

    def test_with_pauses_that_have_ended_they_stay(self):
        run = begun()
        self.assert_felt(run, "b", 105, "halt")
        self.assert_felt(run, "c", 107, "resume")
        self.assert_felt(run, "d", 107, "reply")
        rows = [("b", 105, "still"), ("c", 107, "goes on"), ("d", 107, "ends")]
        self.assert_account(run, "over", 100, 10, [(105, 106)], 112, rows)

    def test_it_feels_nothing_any_more(self):
        for kind in ("reply", "drop"):
            run = begun()
            self.assert_felt(run, "b", 105, kind)
            for day in (105, 106, 110, 111):
                for other in FELT + ("reply", "claim", "x"):
                    self.assert_not_felt(run, "c", day, other)

    def test_made_longer_and_begun_anew_ahead_of_it(self):
        run = begun()
        self.assert_felt(run, "b", 103, "serve")
        self.assert_felt(run, "c", 104, "grant")
        self.assert_felt(run, "d", 500, "drop")
        rows = [("b", 103, "anew"), ("c", 104, "longer"), ("d", 500, "ends")]
        self.assert_account(run, "over", 103, 15, [], 118, rows)


class OnWhatDays(OneRun):
    def test_on_the_day_of_the_start_and_earlier(self):
        for day in (0, 99, 100):
            for kind in ("serve", "grant", "favour", "halt", "resume"):
                self.assert_not_felt(begun(), "b", day, kind)

    def test_on_the_day_behind_the_start_and_on_the_last_day(self):
        for day in (101, 110):
            for kind in ("serve", "grant", "favour", "halt"):
                self.assert_felt(begun(), "b", day, kind)

    def test_behind_the_last_day(self):
        for day in (111, 112, 9999):
            for kind in ("serve", "grant", "favour", "halt", "resume"):
                self.assert_not_felt(begun(), "b", day, kind)

    def test_the_last_day_of_a_run_that_waited_for_an_open_one(self):
        for kind in ("serve", "grant", "favour", "halt"):
            for day in (103, 104, 105):
                self.assert_felt(begun(3, table=ENDS_OF_WEEKS), "b", day, kind)
            self.assert_not_felt(begun(3, table=ENDS_OF_WEEKS), "b", 106, kind)

    def test_the_last_day_as_earlier_acts_made_it(self):
        run = begun()
        self.assert_felt(run, "b", 110, "grant")
        self.assert_felt(run, "c", 115, "halt")
        self.assert_felt(run, "d", 500, "resume")
        self.assertEqual(run.lasts_to(), 500)
        self.assert_felt(run, "e", 500, "favour")
        self.assert_felt(run, "f", 503, "serve")
        self.assert_not_felt(run, "g", 503, "halt")
        self.assert_not_felt(run, "h", 514, "halt")
        self.assert_felt(run, "i", 513, "halt")

    def test_the_start_as_an_act_made_it_anew(self):
        for kind in ("serve", "grant", "favour", "halt", "resume"):
            run = begun()
            self.assert_felt(run, "b", 105, "serve")
            self.assert_not_felt(run, "c", 105, kind)
        for kind in ("serve", "grant", "favour", "halt"):
            run = begun()
            self.assert_felt(run, "b", 105, "serve")
            self.assert_felt(run, "c", 115, kind)


class Hanging(OneRun):
    def assert_days(self, runs, *days):
        """The starts and last days of the runs: each one's last is the next one's start."""
        self.assertEqual([(run.starts_on(), run.lasts_to()) for run in runs], list(days))
        self.assertEqual([(run.account()[2], run.account()[5]) for run in runs], list(days))

    def test_two_three_and_six_deep(self):
        self.assert_days(chain(2), (100, 110), (110, 120))
        self.assert_days(chain(3), (100, 110), (110, 120), (120, 130))
        self.assert_days(chain(6), *[(100 + 10 * k, 110 + 10 * k) for k in range(6)])

    def test_the_account(self):
        run = chain(2)[1]
        self.assertEqual(run.account(), ("one", "runs", 110, 10, [], 120, [("one", 100, "begins")]))

    def test_the_start_is_an_open_day(self):
        # The first is full on day 110, weekday 6, and waits for day 112.
        self.assert_days(chain(2, table=ENDS_OF_WEEKS), (100, 112), (112, 122))
        self.assert_days(chain(2, day=105, table=ENDS_OF_WEEKS), (105, 115), (115, 126))

    def test_the_base_is_made_longer(self):
        runs = chain(3)
        self.assertEqual(feel_all(runs, "b", 110, "grant"), [True, False, False])
        self.assert_days(runs, (100, 115), (115, 125), (125, 135))
        self.assertEqual(feel_all(runs, "c", 116, "grant"), [False, True, False])
        self.assert_days(runs, (100, 115), (115, 130), (130, 140))
        self.assertEqual([len(run.account()[6]) for run in runs], [2, 2, 1])

    def test_the_base_begins_anew(self):
        runs = chain(3)
        self.assertEqual(feel_all(runs, "b", 105, "serve"), [True, False, False])
        self.assert_days(runs, (105, 115), (115, 125), (125, 135))

    def test_while_the_base_has_no_last_day_there_is_no_start(self):
        runs = chain(3)
        self.assertEqual(feel_all(runs, "b", 105, "halt"), [True, False, False])
        self.assert_days(runs, (100, None), (None, None), (None, None))
        for run in runs[1:]:
            self.assertEqual(run.account(), ("one", "stands", None, 10, [], None, [("one", 100, "begins")]))
            for day in (105, 111, 400):
                for kind in ("serve", "grant", "favour", "halt", "resume"):
                    self.assert_not_felt(run, "c", day, kind)
        self.assertEqual(feel_all(runs, "d", 120, "resume"), [True, False, False])
        self.assert_days(runs, (100, 125), (125, 135), (135, 145))

    def test_over_while_it_has_no_start(self):
        runs = chain(3)
        runs[0].feel("b", 105, "halt")
        self.assert_felt(runs[1], "c", 107, "reply")
        told = ("one", "over", None, 10, [], None, [("one", 100, "begins"), ("c", 107, "ends")])
        self.assertEqual(runs[1].account(), told)
        runs[0].feel("d", 120, "resume")
        self.assert_days(runs, (100, 125), (125, 135), (135, 145))
        self.assertEqual(runs[1].account()[1], "over")

    def test_it_moves_along_when_the_base_is_over(self):
        runs = chain(3)
        runs[0].feel("b", 105, "halt")
        self.assert_felt(runs[0], "c", 120, "drop")
        self.assert_days(runs, (100, 125), (125, 135), (135, 145))
        self.assertEqual([run.is_over() for run in runs], [True, False, False])
        self.assert_felt(runs[1], "d", 126, "grant")
        self.assert_days(runs, (100, 125), (125, 140), (140, 150))

    def test_it_moves_along_when_it_is_over_itself(self):
        runs = chain(3)
        self.assert_felt(runs[1], "b", 101, "reply")
        self.assert_felt(runs[0], "c", 105, "grant")
        self.assert_days(runs, (100, 115), (115, 125), (125, 135))
        self.assertEqual([run.is_over() for run in runs], [False, True, False])
        self.assert_felt(runs[0], "d", 110, "serve")
        self.assert_days(runs, (110, 120), (120, 130), (130, 140))
        self.assertEqual(len(runs[1].account()[6]), 2)

    def test_anew_cuts_it_loose(self):
        runs = chain(4)
        self.assertEqual(feel_all(runs, "b", 115, "serve"), [False, True, False, False])
        self.assert_days(runs, (100, 110), (115, 125), (125, 135), (135, 145))
        self.assertEqual(runs[1].account()[6], [("one", 100, "begins"), ("b", 115, "anew")])
        self.assertEqual(feel_all(runs, "c", 118, "halt"), [False, True, False, False])
        self.assert_days(runs, (100, 110), (115, None), (None, None), (None, None))
        self.assertEqual(feel_all(runs, "d", 119, "drop"), [True, True, True, True])
        self.assert_days(runs, (100, 110), (115, 126), (126, 136), (136, 146))

    def test_anew_three_deep(self):
        runs = chain(3)
        self.assertEqual(feel_all(runs, "b", 130, "serve"), [False, False, True])
        self.assert_days(runs, (100, 110), (110, 120), (130, 140))
        self.assertEqual(feel_all(runs, "c", 131, "serve"), [False, False, True])
        self.assert_days(runs, (100, 110), (110, 120), (131, 141))

    def test_acts_earlier_than_its_start_do_nothing(self):
        runs = chain(2)
        for day in (100, 101, 109, 110):
            for kind in ("serve", "grant", "favour", "halt", "resume"):
                self.assert_not_felt(runs[1], "b", day, kind)
        for kind in ("serve", "grant", "favour", "halt"):
            for day in (111, 120):
                self.assert_felt(chain(2)[1], "b", day, kind)
            self.assert_not_felt(chain(2)[1], "b", 121, kind)

    def test_whichever_feels_the_act_first(self):
        for kind in FELT + ("reply", "x"):
            for day in range(100, 143):
                runs = chain(4)
                others = chain(4)
                told = feel_all(runs, "b", day, kind)
                self.assertEqual(feel_all(list(reversed(others)), "b", day, kind), list(reversed(told)))
                self.assertEqual([run.account() for run in runs], [run.account() for run in others])

    def test_runs_of_other_units_and_pauses(self):
        first = begun(10)
        second = Run(full_rule("b", base="a", many=2, unit="weeks"), PLAIN, "one", 100, first)
        third = Run(full_rule("c", base="b", many=3, unit="court"), PLAIN, "one", 100, second)
        self.assert_days([first, second, third], (100, 110), (110, 124), (124, 127))
        second.feel("b", 112, "halt")
        self.assert_days([first, second, third], (100, 110), (110, None), (None, None))
        second.feel("c", 122, "resume")
        self.assert_days([first, second, third], (100, 110), (110, 134), (134, 137))
        self.assertEqual(second.account()[4], [(112, 121)])
        self.assertEqual((first.account()[4], third.account()[4]), ([], []))


class OwnLists(AtOnce):
    def test_accounts_are_the_askers_own(self):
        run = begun()
        run.feel("b", 105, "halt")
        first = run.account()
        same = ("one", "stands", 100, 10, [(105, None)], None, [("one", 100, "begins"), ("b", 105, "still")])
        self.assertEqual(first, same)
        self.assertIs(type(first), tuple)
        second = run.account()
        second[4].clear()
        second[6].append(("x", 1, "ends"))
        self.assertEqual(run.account(), same)
        run.feel("c", 107, "resume")
        run.feel("d", 108, "serve")
        run.feel("e", 109, "reply")
        self.assertEqual(first, same)
        self.assertEqual(run.account()[4], [])

    def test_the_rule_stays_as_it_was(self):
        rule = full_rule()
        run = Run(rule, PLAIN, "one", 100)
        for day, kind in enumerate(("grant", "halt", "resume", "serve", "favour", "drop"), 101):
            self.assertIs(run.feel("b", day, kind), True)
        self.assertEqual((rule.many, rule.still, rule.ends, rule.anew), (10, ("halt", "resume"), ["drop"], ["serve"]))
        self.assertEqual(rule.longer, [("grant", 5, 2), ("favour", 3, 1)])
        self.assertEqual(Run(rule, PLAIN, "one", 100).account()[3], 10)

    def test_two_runs_of_one_rule_share_nothing(self):
        rule = full_rule()
        first = Run(rule, PLAIN, "one", 100)
        second = Run(rule, PLAIN, "two", 100)
        for name, kind in (("b", "grant"), ("c", "grant"), ("d", "halt")):
            first.feel(name, 105, kind)
        self.assertEqual(second.account(), ("two", "runs", 100, 10, [], 110, [("two", 100, "begins")]))
        self.assertIs(second.feel("e", 105, "grant"), True)
        self.assertIs(second.feel("f", 105, "grant"), True)

    def test_asking_changes_nothing(self):
        runs = chain(3)
        told = [(run.starts_on(), run.lasts_to(), run.is_over(), run.account()) for run in runs]
        self.assertEqual([(run.starts_on(), run.lasts_to(), run.is_over(), run.account()) for run in runs], told)


class OfAnySize(AtOnce):
    def test_days_of_many_figures(self):
        deeds = (("b", 5, "grant"), ("c", 12, "halt"), ("d", 33, "resume"), ("e", 34, "serve"), ("f", 90, "drop"))
        for table in (PLAIN, ENDS_OF_WEEKS):
            near = chain(4, day=100, table=table)
            for move in (TURN, BIG, TURN * written(290)):
                far = chain(4, day=100 + move, table=table)
                near = chain(4, day=100, table=table)
                for name, day, kind in deeds:
                    feel_all(near, name, 100 + day, kind)
                    feel_all(far, name, 100 + day + move, kind)
                    for one, other in zip(near, far):
                        for ask in ("starts_on", "lasts_to"):
                            told = getattr(one, ask)()
                            self.assertEqual(getattr(other, ask)(), None if told is None else told + move)
                        self.assertEqual(one.account()[1], other.account()[1])

    def test_units_of_many_figures(self):
        for figures in (20, 60, 299):
            many = written(figures)
            rule = rule_with(from_rule("a", many=many, still=("halt", "resume")), longer=[("grant", many, 2)])
            run = Run(rule, PLAIN, "one", many)
            hung = Run(behind_rule("b", "a", many=many, unit="weeks"), PLAIN, "one", many, run)
            self.assertEqual((run.lasts_to(), hung.lasts_to()), (2 * many, 9 * many))
            self.assertIs(run.feel("b", 2 * many, "grant"), True)
            self.assertEqual((run.lasts_to(), hung.starts_on(), hung.lasts_to()), (3 * many, 3 * many, 10 * many))
            self.assertIs(run.feel("c", 2 * many + 1, "halt"), True)
            self.assertIs(run.feel("d", 4 * many + 1, "resume"), True)
            self.assertEqual(run.account()[4], [(2 * many + 1, 4 * many)])
            self.assertEqual((run.lasts_to(), hung.starts_on(), hung.lasts_to()), (5 * many, 5 * many, 12 * many))
            self.assertIs(run.feel("e", 5 * many + 1, "grant"), False)

    def test_times_of_many_figures(self):
        rule = rule_with(from_rule("a"), longer=[("grant", 1, written(60))])
        run = Run(rule, PLAIN, "one", 0)
        for turn in range(50):
            self.assertIs(run.feel("b", 3, "grant"), True)
        self.assertEqual(run.lasts_to(), 60)


if __name__ == "__main__":
    unittest.main()
