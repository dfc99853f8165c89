"""Histories: what acts do to all terms of a book; points [28] to [33]."""

import itertools
import random
import unittest

import history_walk
from book_samples import MIXED, behind_rule, book_of, from_rule, rule_with
from history_samples import (
    acts_moved, full_rule, history_moved, rich_cases, rules_of, some_cases, some_names, table_and_free,
)
from limits import AtOnce
from samples import written
from table_samples import BIG, MOVES, TURN, moved
from termcourt.books import Book, read_book
from termcourt.history import history, in_order
from termcourt.tables import Table

PLAIN = Table([])
ENDS_OF_WEEKS = Table([6, 7])
LONE = book_of(full_rule())
PAIR = book_of(full_rule(), full_rule("b", base="a"))


def lone(*acts):
    """The accounts of one term of ten days that feels each role."""
    return history(LONE, PLAIN, list(acts))["a"]


def starts_and_lasts(told):
    return {term: [(account[2], account[5]) for account in accounts] for term, accounts in told.items()}


class InOrder(unittest.TestCase):
    def test_by_days_and_then_by_names(self):
        acts = [("b", "x", 5), ("a", "y", 7), ("c", "z", 5), ("aa", "z", 5), ("z", "x", 0), ("d", "a", 10)]
        told = [("z", "x", 0), ("aa", "z", 5), ("b", "x", 5), ("c", "z", 5), ("a", "y", 7), ("d", "a", 10)]
        for handed in itertools.permutations(acts):
            self.assertEqual(in_order(list(handed)), told)

    def test_names_as_texts_are_less_or_greater(self):
        names = ["a", "aa", "aaa", "aab", "ab", "b", "ba", "z", "zz"]
        acts = [(name, "x", 3) for name in names]
        self.assertEqual(in_order(list(reversed(acts))), acts)

    def test_kinds_do_not_matter(self):
        acts = [("a", "z", 3), ("b", "y", 3), ("c", "x", 3)]
        self.assertEqual(in_order([acts[1], acts[2], acts[0]]), acts)

    def test_none_and_one(self):
        self.assertEqual(in_order([]), [])
        self.assertEqual(in_order([("a", "x", 3)]), [("a", "x", 3)])

    def test_days_of_any_size(self):
        days = [0, 9, 10, 99, written(60), written(60) + 1, 10 ** 299]
        acts = [(name, "x", day) for name, day in zip("gfedcba", days)]
        self.assertEqual(in_order(list(reversed(acts))), acts)

    def test_the_list_handed_in_stays_and_the_told_one_is_the_askers_own(self):
        acts = [("b", "x", 5), ("a", "y", 3)]
        handed = list(acts)
        told = in_order(handed)
        self.assertEqual(handed, acts)
        self.assertIsNot(told, handed)
        told.clear()
        self.assertEqual(in_order(acts=handed), [("a", "y", 3), ("b", "x", 5)])
        same = in_order([("a", "y", 3), ("b", "x", 5)])
        handed.append(("c", "z", 1))
        self.assertEqual(same, [("a", "y", 3), ("b", "x", 5)])


class OneTerm(unittest.TestCase):
    def test_idle_at_first(self):
        self.assertEqual(lone(), [])
        kinds = ("reply", "drop", "serve", "grant", "halt", "resume", "nothing")
        self.assertEqual(lone(*[(kind, kind, 100) for kind in kinds]), [])

    def test_begun(self):
        self.assertEqual(lone(("one", "claim", 100)), [("one", "runs", 100, 10, [], 110, [("one", 100, "begins")])])

    def test_a_term_that_runs_does_not_begin(self):
        told = [("one", "runs", 100, 10, [], 110, [("one", 100, "begins")])]
        self.assertEqual(lone(("one", "claim", 100), ("two", "claim", 100)), told)
        self.assertEqual(lone(("one", "claim", 100), ("two", "claim", 105)), told)

    def test_it_runs_on_behind_its_last_day(self):
        told = [("one", "runs", 100, 10, [], 110, [("one", 100, "begins")])]
        self.assertEqual(lone(("one", "claim", 100), ("two", "claim", 111), ("x", "claim", 900)), told)
        told = [("one", "over", 100, 10, [], 110, [("one", 100, "begins"), ("two", 900, "ends")])]
        self.assertEqual(lone(("one", "claim", 100), ("two", "reply", 900)), told)

    def test_several_runs(self):
        acts = [("a", "claim", 100), ("b", "reply", 103), ("c", "claim", 103), ("d", "grant", 104), ("e", "drop", 105),
                ("f", "reply", 106), ("g", "claim", 300)]
        self.assertEqual(lone(*acts), [
            ("a", "over", 100, 10, [], 110, [("a", 100, "begins"), ("b", 103, "ends")]),
            ("c", "over", 103, 15, [], 118, [("c", 103, "begins"), ("d", 104, "longer"), ("e", 105, "ends")]),
            ("g", "runs", 300, 10, [], 310, [("g", 300, "begins")]),
        ])

    def test_acts_of_one_day_in_the_order_of_their_names(self):
        told = lone(("b", "claim", 100), ("a", "reply", 100))
        self.assertEqual(told, [("b", "runs", 100, 10, [], 110, [("b", 100, "begins")])])
        told = lone(("a", "claim", 100), ("b", "reply", 100))
        self.assertEqual(told, [("a", "over", 100, 10, [], 110, [("a", 100, "begins"), ("b", 100, "ends")])])

    def test_all_roles(self):
        acts = [("a", "claim", 100), ("b", "halt", 102), ("c", "grant", 103), ("d", "resume", 105), ("e", "halt", 105),
                ("f", "favour", 106), ("g", "resume", 109)]
        rows = [("a", 100, "begins"), ("b", 102, "still"), ("c", 103, "longer"), ("d", 105, "goes on"),
                ("e", 105, "still"), ("f", 106, "longer"), ("g", 109, "goes on")]
        self.assertEqual(lone(*acts), [("a", "runs", 100, 18, [(102, 104), (105, 108)], 125, rows)])
        acts.append(("h", "serve", 125))
        rows.append(("h", 125, "anew"))
        self.assertEqual(lone(*acts), [("a", "runs", 125, 10, [], 135, rows)])
        acts.append(("i", "halt", 126))
        rows.append(("i", 126, "still"))
        self.assertEqual(lone(*acts), [("a", "stands", 125, 10, [(126, None)], None, rows)])
        acts.append(("j", "drop", 130))
        rows.append(("j", 130, "ends"))
        self.assertEqual(lone(*acts), [("a", "over", 125, 10, [(126, 129)], 139, rows)])

    def test_acts_that_did_nothing_stand_in_no_row(self):
        acts = [("b", "claim", 100), ("c", "halt", 100), ("d", "claim", 101), ("e", "nothing", 101),
                ("f", "resume", 102), ("g", "grant", 111), ("a", "serve", 100)]
        self.assertEqual(lone(*acts), [("b", "runs", 100, 10, [], 110, [("b", 100, "begins")])])

    def test_free_days(self):
        told = history(LONE, ENDS_OF_WEEKS, [("a", "claim", 100)])
        self.assertEqual(told, {"a": [("a", "runs", 100, 10, [], 112, [("a", 100, "begins")])]})


class Beginning(unittest.TestCase):
    def test_a_term_that_an_act_ends_does_not_begin_by_it(self):
        # By hand one kind may begin and end a term.
        book = book_of(rule_with(from_rule("a"), ends=["claim"]))
        acts = [("a", "claim", 1), ("b", "claim", 2), ("c", "claim", 3), ("d", "claim", 4), ("e", "claim", 5)]
        told = history(book, PLAIN, acts)["a"]
        self.assertEqual([(account[0], account[1]) for account in told], [("a", "over"), ("c", "over"), ("e", "runs")])

    def test_a_term_that_hangs_does_not_begin_by_the_act_that_ends_it_and_begins_its_base(self):
        book = book_of(from_rule("a"), behind_rule("b", "a", owes="claim"), behind_rule("c", "b", owes="plea"))
        acts = [("p", "claim", 1), ("q", "reply", 2), ("r", "plea", 3), ("s", "claim", 4), ("t", "reply", 5)]
        told = history(book, PLAIN, acts)
        self.assertEqual(told["b"], [("p", "over", 11, 10, [], 21, [("p", 1, "begins"), ("s", 4, "ends")])])
        self.assertEqual([account[0] for account in told["a"]], ["p", "s"])
        self.assertEqual([account[0] for account in told["c"]], ["p"])
        told = history(book, PLAIN, acts + [("u", "claim", 6)])
        begun = [[account[0] for account in told[term]] for term in "abc"]
        self.assertEqual(begun, [["p", "s", "u"], ["p", "u"], ["p", "u"]])

    def test_one_act_ends_a_term_and_begins_another_one(self):
        book = book_of(from_rule("a"), from_rule("b", opens="reply", owes="claim"))
        told = history(book, PLAIN, [("x", "claim", 1), ("y", "reply", 2), ("z", "claim", 3)])
        self.assertEqual(told, {
            "a": [("x", "over", 1, 10, [], 11, [("x", 1, "begins"), ("y", 2, "ends")]),
                  ("z", "runs", 3, 10, [], 13, [("z", 3, "begins")])],
            "b": [("y", "over", 2, 10, [], 12, [("y", 2, "begins"), ("z", 3, "ends")])],
        })

    def test_a_term_that_hangs_on_one_that_an_act_ended_does_not_begin(self):
        told = history(PAIR, PLAIN, [("x", "claim", 1), ("y", "drop", 2)])
        self.assertEqual([len(accounts) for accounts in told.values()], [1, 1])
        self.assertEqual([accounts[0][1] for accounts in told.values()], ["over", "over"])

    def test_a_term_that_hangs_begins_by_the_act_that_began_its_base(self):
        told = history(PAIR, PLAIN, [("x", "claim", 100)])
        self.assertEqual(told, {
            "a": [("x", "runs", 100, 10, [], 110, [("x", 100, "begins")])],
            "b": [("x", "runs", 110, 10, [], 120, [("x", 100, "begins")])],
        })

    def test_it_does_not_begin_while_it_runs(self):
        book = book_of(from_rule("a", owes="reply"), behind_rule("b", "a", owes="plea"))
        told = history(book, PLAIN, [("p", "claim", 100), ("q", "reply", 103), ("r", "claim", 105), ("s", "plea", 106),
                                     ("t", "claim", 107), ("u", "reply", 108), ("v", "claim", 109)])
        # The first run of b still hangs on the first run of a, and it misses the second one of a.
        self.assertEqual(starts_and_lasts(told), {
            "a": [(100, 110), (105, 115), (109, 119)],
            "b": [(110, 120), (119, 129)],
        })
        self.assertEqual([account[0] for account in told["b"]], ["p", "v"])

    def test_it_does_not_begin_when_its_base_begins_anew_or_is_idle(self):
        book = book_of(full_rule(), behind_rule("b", "a", owes="plea"))
        told = history(book, PLAIN, [("p", "claim", 100), ("q", "plea", 101), ("r", "serve", 102), ("s", "plea", 103)])
        self.assertEqual(len(told["b"]), 1)
        told = history(book, PLAIN, [("p", "plea", 100), ("q", "serve", 101)])
        self.assertEqual(told, {"a": [], "b": []})

    def test_chains_told_backwards_begin_together(self):
        book = book_of(behind_rule("c", "b"), behind_rule("b", "a"), from_rule("a"))
        told = history(book, PLAIN, [("x", "claim", 100)])
        self.assertEqual(list(told), ["a", "b", "c"])
        self.assertEqual(starts_and_lasts(told), {"a": [(100, 110)], "b": [(110, 120)], "c": [(120, 130)]})

    def test_the_middle_one_runs_already(self):
        book = book_of(from_rule("a", owes="one"), behind_rule("b", "a", "two"), behind_rule("c", "b", "three"))
        told = history(book, PLAIN, [("p", "claim", 100), ("q", "one", 101), ("r", "three", 102), ("s", "claim", 103)])
        # By the last act a begins, b runs, so c, which hangs on b, does not begin.
        self.assertEqual(starts_and_lasts(told), {"a": [(100, 110), (103, 113)], "b": [(110, 120)], "c": [(120, 130)]})
        self.assertEqual(told["c"][0][1], "over")

    def test_several_terms_on_one_and_of_one_from_kind(self):
        hung = [behind_rule("b", "a", many=3), behind_rule("c", "a", many=4)]
        book = book_of(from_rule("a"), *hung, from_rule("d", many=5))
        told = starts_and_lasts(history(book, PLAIN, [("x", "claim", 100)]))
        self.assertEqual(told, {"a": [(100, 110)], "b": [(110, 113)], "c": [(110, 114)], "d": [(100, 105)]})


class Hanging(unittest.TestCase):
    def test_starts_move_along_three_deep(self):
        book = book_of(full_rule(), behind_rule("b", "a", "two"), behind_rule("c", "b", "three"))
        acts = [("p", "claim", 100), ("q", "grant", 105)]
        told = starts_and_lasts(history(book, PLAIN, acts))
        self.assertEqual(told, {"a": [(100, 115)], "b": [(115, 125)], "c": [(125, 135)]})
        acts.append(("r", "two", 106))
        acts.append(("s", "serve", 107))
        told = history(book, PLAIN, acts)
        self.assertEqual(starts_and_lasts(told), {"a": [(107, 117)], "b": [(117, 127)], "c": [(127, 137)]})
        self.assertEqual([told[term][0][1] for term in told], ["runs", "over", "runs"])

    def test_while_the_base_has_no_last_day_there_is_no_start(self):
        book = book_of(full_rule(), behind_rule("b", "a", "two"), behind_rule("c", "b", "three"))
        acts = [("p", "claim", 100), ("q", "halt", 105)]
        told = history(book, PLAIN, acts)
        self.assertEqual(told["b"], [("p", "stands", None, 10, [], None, [("p", 100, "begins")])])
        self.assertEqual(told["c"], [("p", "stands", None, 10, [], None, [("p", 100, "begins")])])
        acts.append(("r", "two", 300))
        told = history(book, PLAIN, acts)
        self.assertEqual(told["b"], [("p", "over", None, 10, [], None, [("p", 100, "begins"), ("r", 300, "ends")])])
        acts.append(("s", "reply", 400))
        told = history(book, PLAIN, acts)
        self.assertEqual(starts_and_lasts(told), {"a": [(100, 405)], "b": [(405, 415)], "c": [(415, 425)]})
        self.assertEqual([told[term][0][1] for term in told], ["over", "over", "runs"])

    def test_an_act_of_unlike_roles(self):
        # It makes the base longer, and would let the other one stand still.
        base = rule_with(from_rule("a"), longer=[("x", 5, 3)])
        book = book_of(base, behind_rule("b", "a", "two", still=("x", "y")))
        told = history(book, PLAIN, [("p", "claim", 100), ("q", "x", 110), ("r", "x", 115), ("s", "x", 121)])
        self.assertEqual(starts_and_lasts(told), {"a": [(100, 120)], "b": [(120, None)]})
        self.assertEqual(told["a"][0][6], [("p", 100, "begins"), ("q", 110, "longer"), ("r", 115, "longer")])
        self.assertEqual(told["b"][0][6], [("p", 100, "begins"), ("s", 121, "still")])

    def test_anew_cuts_it_loose(self):
        book = book_of(full_rule(), full_rule("b", base="a"))
        told = history(book, PLAIN, [("p", "claim", 100), ("q", "serve", 104), ("r", "serve", 120)])
        self.assertEqual(starts_and_lasts(told), {"a": [(104, 114)], "b": [(120, 130)]})
        self.assertEqual(told["b"][0][6], [("p", 100, "begins"), ("r", 120, "anew")])


class WholeHistories(unittest.TestCase):
    def test_all_names_in_the_order_of_hanging(self):
        book = book_of(behind_rule("z", "m"), from_rule("a"), behind_rule("b", "z"), from_rule("m"))
        self.assertEqual(list(history(book, PLAIN, [])), ["m", "z", "a", "b"])
        self.assertEqual(history(book, PLAIN, []), {"m": [], "z": [], "a": [], "b": []})

    def test_a_book_without_terms(self):
        self.assertEqual(history(Book([]), PLAIN, [("a", "claim", 3)]), {})
        self.assertEqual(history(read_book(""), PLAIN, []), {})

    def test_a_book_that_was_read(self):
        told = history(read_book(MIXED), ENDS_OF_WEEKS, [
            ("c", "warning", 3), ("a", "claim", 0), ("b", "halt", 2), ("d", "resume", 4), ("e", "settle", 9),
        ])
        self.assertEqual(told, {
            "answer": [("a", "over", 0, 14, [(2, 3)], 16, [("a", 0, "begins"), ("b", 2, "still"), ("d", 4, "goes on"),
                                                           ("e", 9, "ends")])],
            "appeal": [("a", "runs", 16, 2, [], 30, [("a", 0, "begins")])],
            "default": [("c", "runs", 3, 40, [], 59, [("c", 3, "begins")])],
        })

    def test_kinds_that_the_book_does_not_name_do_nothing(self):
        chance = random.Random(28)
        for book, table, acts in some_cases(28, 100) + rich_cases(28, 100):
            names = some_names(chance, 60)
            taken = [act[0] for act in acts]
            others = [(name, "unnamed", chance.randint(0, 7000)) for name in names if name not in taken]
            table = Table(*table)
            self.assertEqual(history(book, table, acts + others), history(book, table, acts))

    def test_acts_in_any_order_give_the_same(self):
        chance = random.Random(29)
        for book, table, acts in some_cases(29, 100) + rich_cases(29, 100):
            table = Table(*table)
            told = history(book, table, acts)
            for handed in (list(reversed(acts)), sorted(acts), in_order(acts), chance.sample(acts, len(acts))):
                self.assertEqual(history(book, table, handed), told)
                self.assertEqual(list(history(book, table, handed)), book.hanging())


class ByTheWords(AtOnce):
    def assert_as_walked(self, cases):
        for book, table, acts in cases:
            table, free = table_and_free(table)
            told = history(book, table, acts)
            walked = history_walk.history(rules_of(book), free, acts)
            self.assertEqual(told, walked, acts)
            self.assertEqual(list(told), list(walked))

    def test_books_by_chance(self):
        self.assert_as_walked(some_cases(31, 1500))

    def test_books_with_all_roles(self):
        self.assert_as_walked(rich_cases(32, 2500))

    def test_very_many_acts(self):
        self.assert_as_walked(rich_cases(33, 60, 300))

    def test_the_samples_have_all_that_is_told(self):
        found = {}
        for book, table, acts in rich_cases(32, 2500):
            for accounts in history(book, Table(*table), acts).values():
                self.note(found, accounts)
        for what in ("over", "runs", "stands", "begins", "anew", "longer", "still", "goes on", "ends", "several runs",
                     "no start", "over without a start", "two pauses", "pauses that touch", "over on another day"):
            self.assertGreater(found.get(what, 0), 5, what)

    def note(self, found, accounts):
        notes = ["several runs"] * (len(accounts) > 1)
        for act, word, start, units, pauses, last, rows in accounts:
            notes += [word] + [row[2] for row in rows]
            notes += ["no start"] * (start is None) + ["over without a start"] * (start is None and word == "over")
            notes += ["two pauses"] * (len(pauses) > 1)
            notes += ["pauses that touch"] * any(one[1] + 1 == two[0] for one, two in zip(pauses, pauses[1:]))
            notes += ["over on another day"] * (word == "over" and last is not None and rows[-1][1] > last)
        for what in notes:
            found[what] = found.get(what, 0) + 1


class OfAnySize(AtOnce):
    def test_days_of_many_figures(self):
        for book, (week, yearly, rows), acts in some_cases(34, 60) + rich_cases(34, 120):
            near = history(book, Table(week, yearly, rows), acts)
            for move in MOVES:
                far = history(book, Table(week, yearly, moved(rows, move)), acts_moved(acts, move))
                self.assertEqual(far, history_moved(near, move))

    def test_units_of_many_figures(self):
        for figures in (20, 60):
            many = written(figures)
            rule = from_rule("a", many=many, still=("halt", "resume"))
            rule_with(rule, longer=[("grant", many, 2)], anew=["serve"])
            hung = [behind_rule("b", "a", "two", many, "weeks"), behind_rule("c", "b", "three", many, "court")]
            book = book_of(rule, *hung)
            acts = [("p", "claim", many)]
            told = starts_and_lasts(history(book, PLAIN, acts))
            self.assertEqual(told, {"a": [(many, 2 * many)], "b": [(2 * many, 9 * many)], "c": [(9 * many, 10 * many)]})
            acts += [("q", "grant", 2 * many), ("r", "halt", 3 * many), ("s", "resume", 5 * many)]
            told = history(book, PLAIN, acts)
            self.assertEqual(told["a"][0][3:6], (2 * many, [(3 * many, 5 * many - 1)], 5 * many))
            self.assertEqual(starts_and_lasts(told)["c"], [(12 * many, 13 * many)])
            acts += [("t", "serve", 5 * many)]
            told = starts_and_lasts(history(book, PLAIN, acts))
            self.assertEqual(told["a"] + told["b"], [(5 * many, 6 * many), (6 * many, 13 * many)])
            self.assertEqual(told["c"], [(13 * many, 14 * many)])

    def test_units_of_whole_turns_more(self):
        for week in ([], [6, 7], [1, 2, 3, 4, 5, 6]):
            table = Table(week, [(10, 20)])
            for unit, in_a_turn in (("days", TURN), ("weeks", TURN // 7), ("court", table.before(TURN))):
                for turns in (1, written(20), written(55)):
                    near = book_of(from_rule("a", many=3, unit=unit), behind_rule("b", "a", many=5))
                    far = book_of(from_rule("a", many=3 + turns * in_a_turn, unit=unit), behind_rule("b", "a", many=5))
                    one = history(near, table, [("x", "claim", BIG + 4)])
                    other = history(far, table, [("x", "claim", BIG + 4)])
                    self.assertEqual(other["a"][0][5], one["a"][0][5] + turns * TURN)
                    self.assertEqual(other["b"][0][2], one["b"][0][2] + turns * TURN)
                    self.assertEqual(other["b"][0][5], one["b"][0][5] + turns * TURN)


class WhatIsPastStays(AtOnce):
    def lasts(self, told):
        return {(term, account[0]): account[5] for term, accounts in told.items() for account in accounts}

    def assert_stays(self, book, table, acts, kinds, days):
        """One act more behind all others changes last days as [33] tells; told are those that changed."""
        before = self.lasts(history(book, table, acts))
        changed = []
        for kind in kinds:
            for day in days:
                after = self.lasts(history(book, table, acts + [("zzzzzzzz", kind, day)]))
                for run, last in before.items():
                    if after[run] != last:
                        self.assertTrue(last is None or last >= day, (run, last, day, acts))
                        self.assertTrue(after[run] is None or after[run] >= day, (run, after[run], day, acts))
                        changed.append((last is None, after[run] is None))
        return changed

    def test_one_more_act(self):
        changed = []
        chance = random.Random(33)
        for book, table, acts in some_cases(35, 100, 12) + rich_cases(35, 300, 12):
            last = max([act[2] for act in acts] + [0])
            acts = [act for act in acts if act[0] != "zzzzzzzz"]
            days = [last, last + 1, last + chance.randint(2, 9), last + chance.randint(10, 200), BIG]
            changed += self.assert_stays(book, Table(*table), acts, book.act_kinds() + ["nothing"], days)
        # From a last day to another one and to none, and from none to one.
        self.assertEqual(set(changed), {(False, False), (False, True), (True, False)})

    def test_each_day_around_the_last_ones(self):
        acts = [("a", "claim", 100), ("b", "grant", 103)]
        for more in ([], [("c", "halt", 104)], [("c", "halt", 103), ("d", "resume", 103)], [("c", "serve", 104)]):
            last = max(act[2] for act in acts + more)
            kinds = LONE.act_kinds()
            self.assert_stays(LONE, ENDS_OF_WEEKS, acts + more, kinds, range(last, last + 50))
            self.assert_stays(PAIR, ENDS_OF_WEEKS, acts + more, kinds, range(last, last + 50))


class OwnLists(AtOnce):
    def test_what_is_handed_in_stays(self):
        for book, table, acts in some_cases(36, 40) + rich_cases(36, 40):
            handed = list(acts)
            rules = [repr(vars(rule)) for rule in rules_of(book)]
            history(book, Table(*table), handed)
            self.assertEqual(handed, acts)
            self.assertEqual([repr(vars(rule)) for rule in rules_of(book)], rules)

    def test_what_is_told_is_the_askers_own(self):
        acts = [("p", "claim", 100), ("q", "halt", 105)]
        told = history(PAIR, PLAIN, acts)
        same = history(PAIR, PLAIN, acts)
        self.assertIs(type(told), dict)
        told["a"][0][4].clear()
        told["a"][0][6].clear()
        told["b"].clear()
        told.pop("b")
        self.assertEqual(history(PAIR, PLAIN, acts), same)
        acts.append(("r", "reply", 106))
        rows = [("p", 100, "begins"), ("q", 105, "still")]
        self.assertEqual(same["a"], [("p", "stands", 100, 10, [(105, None)], None, rows)])

    def test_lists_of_unlike_terms_are_unlike(self):
        told = history(book_of(from_rule("a"), from_rule("b"), from_rule("c", "x")), PLAIN, [("p", "claim", 100)])
        told["a"][0][6].append("x")
        told["a"].append("x")
        told["c"].append("x")
        self.assertEqual(told["b"], [("p", "runs", 100, 10, [], 110, [("p", 100, "begins")])])
        self.assertEqual(history(book_of(from_rule("c", "x")), PLAIN, []), {"c": []})

    def test_arguments_have_the_names_told(self):
        told = history(book=LONE, table=PLAIN, acts=[("p", "claim", 100)])
        self.assertEqual(told, {"a": [("p", "runs", 100, 10, [], 110, [("p", 100, "begins")])]})


if __name__ == "__main__":
    unittest.main()
