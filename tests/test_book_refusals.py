"""Texts that are no books: which refusal, with which field, and which of two goes first; points [24] and [25]."""

import random
import unittest

import book_walk
from book_samples import MIXED, some_books, spoilt, told
from limits import AtOnce
from refused import Refusing
from samples import written
from termcourt.books import read_book
from termcourt.errors import CourtError, Ring

TERM = "term a of who due reply from claim 5 days"
BEHIND = "term b of who due plea behind a 5 days"
MORE = ("ends a drop", "anew a serve", "longer a grant 7 times 2", "still a halt resume", "yields a c")
OTHER = "term c of who due reply from cry 5 days"
ROWS = (TERM, BEHIND) + MORE
NO_NAMES = ("", "A", "Drop", "dRop", "drop1", "1", "0", "abcdefghi", "a" * 5000, "a-b", "a_b", "a.", "a\t", "\ta", "\t",
            "[", "`", "{", "~", "NAME", "None")
NO_NUMBERS = ("0", "00", "01", "007", "+1", "-1", "1.0", "1,0", "1_0", "\t1", "1\t", "one", "", "x", "I", "0x1", "1e1",
              "9" * 60, "9" * 5000, "1" + "0" * 5000, "0" * 5000, "0" * 5000 + "1", "3" * 20000)
NO_UNITS = ("", "day", "week", "Days", "DAYS", "dayss", "courts", "court\t", "\tdays", "daysweeks", "d", "UNIT", "5")


def with_terms(*rows):
    """A text with terms a and c in front, due one kind, and then these rows, from the place 2 on."""
    return "\n".join((TERM, OTHER) + rows)


def term_rows(many):
    return [f"term {name} of who due reply from claim 5 days" for name in "abcdefghijklmnop"[:many]]


class Reading(Refusing):
    def assert_no_rule(self, at, text):
        self.assert_refused("NoRule", read_book, text, at=at)

    def assert_no_row(self, row):
        """The row is none, first, among others, and last."""
        self.assert_no_rule(0, row)
        self.assert_no_rule(1, TERM + "\n" + row)
        self.assert_no_rule(2, with_terms(row))
        self.assert_no_rule(2, with_terms(row, "ends a drop"))
        self.assert_no_rule(2, with_terms(row, "nothing"))


class NoRows(Reading):
    def test_what_stands_in_all_these_tests_is_taken(self):
        self.assertEqual(read_book("\n".join((TERM, BEHIND, OTHER) + MORE)).term_names(), ["a", "b", "c"])

    def test_a_word_too_few(self):
        for row in ROWS:
            words = row.split(" ")
            for at in range(len(words)):
                self.assert_no_row(" ".join(words[:at] + words[at + 1:]))

    def test_a_word_too_many(self):
        for row in ROWS:
            words = row.split(" ")
            for at in range(len(words) + 1):
                for word in ("x", "5", "days", "of"):
                    self.assert_no_rule(2, with_terms(" ".join(words[:at] + [word] + words[at:])))

    def test_two_blanks_together_and_blanks_at_the_ends(self):
        for row in ROWS:
            words = row.split(" ")
            for at in range(len(words) + 1):
                self.assert_no_row(" ".join(words[:at] + [""] + words[at:]))

    def test_a_tab_in_the_place_of_a_blank(self):
        for row in ROWS:
            words = row.split(" ")
            for at in range(1, len(words)):
                self.assert_no_row(" ".join(words[:at]) + "\t" + " ".join(words[at:]))

    def test_another_word_in_the_place_of_one_that_is_told(self):
        for row in ROWS:
            words = row.split(" ")
            told_at = [at for at, word in enumerate(words)
                       if at == 0 or word in ("of", "due", "from", "behind", "times")]
            for at in told_at:
                for word in ("x", "off", "Of", "", "dues", "form", "behin", "time", words[at].upper(), words[at] + "s"):
                    self.assert_no_row(" ".join(words[:at] + [word] + words[at + 1:]))

    def test_the_sort_of_one_row_and_the_words_of_another(self):
        sorts = ("term", "ends", "anew", "longer", "still", "yields")
        for row in ROWS:
            words = row.split(" ")
            for sort in sorts:
                # Ends, anew and yields rows have words of the same sorts.
                alike = {"ends", "anew", "yields"}
                if sort != words[0] and not {sort, words[0]} <= alike:
                    self.assert_no_row(" ".join([sort] + words[1:]))

    def test_no_name(self):
        for row in ROWS:
            words = row.split(" ")
            fixed = ("term", "of", "due", "from", "behind", "times", "days", "5", "7", "2")
            names_at = [at for at, word in enumerate(words) if at > 0 and word not in fixed]
            for at in names_at:
                for word in NO_NAMES:
                    self.assert_no_row(" ".join(words[:at] + [word] + words[at + 1:]))

    def test_no_number_and_numbers_beyond(self):
        for word in NO_NUMBERS + ("41", "42", "100", "400", "50"):
            self.assert_no_row(f"term b of who due reply from claim {word} days")
            self.assert_no_row(f"term b of who due reply behind a {word} days")
        for word in NO_NUMBERS + ("21", "22", "30", "100", "200"):
            self.assert_no_row(f"longer a grant {word} times 2")
        for word in NO_NUMBERS + ("4", "5", "10", "30", "33"):
            self.assert_no_row(f"longer a grant 7 times {word}")

    def test_a_blank_in_front_of_a_number(self):
        self.assert_no_row("term b of who due reply from claim  5 days")
        self.assert_no_row("term b of who due reply behind a  5 days")
        self.assert_no_row("longer a grant  7 times 2")
        self.assert_no_row("longer a grant 7 times  2")

    def test_numbers_at_the_bounds_are_taken(self):
        for many in ("1", "40"):
            self.assertEqual(read_book(f"term b of who due reply from claim {many} days").rule_of("b").many, int(many))
        for units in ("1", "20"):
            for times in ("1", "3"):
                book = read_book(TERM + f"\nlonger a grant {units} times {times}")
                self.assertEqual(book.rule_of("a").longer, [("grant", int(units), int(times))])

    def test_no_unit(self):
        for word in NO_UNITS:
            self.assert_no_row(f"term b of who due reply from claim 5 {word}")
            self.assert_no_row(f"term b of who due reply behind a 5 {word}")

    def test_rows_without_signs_and_of_blanks(self):
        for row in ("", " ", "  ", "\t", " " * 9, "  " * 5000, "x", "x" * 5000, "term", "ends", "#", "# a remark"):
            if row:
                self.assert_no_rule(0, row)
            self.assert_no_rule(1, TERM + "\n" + row)
            self.assert_no_rule(1, TERM + "\n" + row + "\n" + OTHER)

    def test_a_text_that_ends_or_begins_with_a_line_feed(self):
        self.assert_no_rule(1, TERM + "\n")
        self.assert_no_rule(1, TERM + "\n\n" + OTHER)
        self.assert_no_rule(0, "\n" + TERM)
        self.assert_no_rule(0, "\n")
        self.assert_no_rule(0, "\n\n\n")
        self.assert_no_rule(15, MIXED + "\n")

    def test_the_row_that_stands_first_is_told(self):
        self.assert_no_rule(0, "x\ny\nz")
        self.assert_no_rule(1, TERM + "\nx\n" + TERM)
        self.assert_no_rule(2, with_terms("x", "y", "ends z x"))


class FortyFirst(Reading):
    def forty(self):
        return term_rows(4) + [f"ends {name} {kind}" for name in "abcd" for kind in "klmnopqrs"]

    def test_forty_are_taken(self):
        self.assertEqual(len(self.forty()), 40)
        self.assertEqual(read_book("\n".join(self.forty())).rule_of("d").ends, list("klmnopqrs"))

    def test_one_more_that_is_good(self):
        for row in ("ends a z", "term e of who due reply from claim 5 days", "yields a b", "anew d z"):
            self.assert_no_rule(40, "\n".join(self.forty() + [row]))
            self.assert_no_rule(40, "\n".join(self.forty() + [row, "x", "y"]))
            self.assert_no_rule(40, "\n".join(self.forty() + [row] * 5000))

    def test_one_more_that_is_bad(self):
        for row in ("", "x", "ends z z", "ends a k", "term a of who due reply from claim 5 days", "yields a z"):
            self.assert_no_rule(40, "\n".join(self.forty() + [row]))

    def test_it_goes_ahead_of_names_that_are_no_terms(self):
        rows = self.forty()
        rows[5] = "yields a z"
        self.assert_refused("NoTerm", read_book, "\n".join(rows), name="z")
        self.assert_no_rule(40, "\n".join(rows + ["ends a z"]))
        rows[3] = "term d of who due reply behind d 5 days"
        self.assert_no_rule(40, "\n".join(rows + ["ends a z"]))

    def test_earlier_rows_go_ahead_of_it(self):
        rows = self.forty()
        rows[39] = "x"
        self.assert_no_rule(39, "\n".join(rows + ["ends a z"]))
        rows[39] = "ends d k"
        self.assert_refused("Unfit", read_book, "\n".join(rows + ["ends a z"]), at=39)

    def test_very_many_rows(self):
        self.assert_no_rule(0, "\n" * 100000)
        self.assert_no_rule(40, "\n".join(self.forty()) + "\n" * 100000)


class Terms(Reading):
    def test_one_name_twice(self):
        for row in (TERM, "term a of me due x from y 7 court", "term a of me due x behind a 7 court",
                    "term a of me due x behind z 7 court"):
            self.assert_refused("Twice", read_book, TERM + "\n" + row, name="a")
            self.assert_refused("Twice", read_book, with_terms("ends a x", row), name="a")
        self.assert_refused("Twice", read_book, with_terms(OTHER), name="c")

    def test_twice_goes_ahead_of_unfit(self):
        self.assert_refused("Twice", read_book, TERM + "\nterm a of who due x from x 5 days", name="a")
        self.assert_refused("Twice", read_book, "\n".join(term_rows(6) + [term_rows(6)[5]]), name="f")

    def test_the_seventh_term_row(self):
        self.assertEqual(read_book("\n".join(term_rows(6))).term_names(), list("abcdef"))
        self.assert_refused("Unfit", read_book, "\n".join(term_rows(7)), at=6)
        self.assert_refused("Unfit", read_book, "\n".join(term_rows(9)), at=6)
        rows = term_rows(6) + ["ends a x", "ends b x", "term g of who due x behind a 5 days"]
        self.assert_refused("Unfit", read_book, "\n".join(rows), at=8)

    def test_one_kind_due_and_from(self):
        self.assert_refused("Unfit", read_book, "term a of who due x from x 5 days", at=0)
        self.assert_refused("Unfit", read_book, TERM + "\nterm b of who due reply from reply 5 days", at=1)

    def test_names_and_kinds_that_may_be_one(self):
        book = read_book("term x of x due x behind y 5 days\nterm y of y due x from y 5 days")
        self.assertEqual((book.rule_of("x").owes, book.rule_of("y").opens), ("x", "y"))

    def test_a_row_ahead_of_its_term_row(self):
        for row in MORE:
            self.assert_refused("NoTerm", read_book, row, name="a")
            self.assert_refused("NoTerm", read_book, row + "\n" + TERM, name="a")
            self.assert_refused("NoTerm", read_book, OTHER + "\n" + row + "\n" + TERM, name="a")
            self.assert_refused("NoTerm", read_book, row + "\nnothing", name="a")

    def test_a_row_of_a_term_that_no_row_tells(self):
        for row in ("ends z x", "anew z x", "longer z x 1 times 1", "still z x y", "yields z a", "yields z z",
                    "ends who x", "ends reply x", "ends claim x"):
            self.assert_refused("NoTerm", read_book, with_terms(row), name=row.split(" ")[1])

    def test_no_term_goes_ahead_of_unfit(self):
        self.assert_refused("NoTerm", read_book, with_terms("still z x x"), name="z")

    def test_no_rule_goes_ahead_of_all(self):
        self.assert_no_rule(0, "ends z X")
        self.assert_no_rule(1, TERM + "\nterm a of who due x from x 41 days")
        self.assert_no_rule(6, "\n".join(term_rows(6) + ["term g of who due x from x 0 days"]))
        self.assert_no_rule(2, with_terms("longer a reply 21 times 1"))

    def test_each_row_is_read_to_its_end_ahead_of_the_next_one(self):
        self.assert_refused("Twice", read_book, TERM + "\n" + TERM + "\nnothing", name="a")
        self.assert_refused("Unfit", read_book, with_terms("ends a reply", "nothing"), at=2)
        self.assert_refused("NoTerm", read_book, with_terms("ends z x", "nothing"), name="z")
        self.assert_refused("Unfit", read_book, with_terms("ends a reply", "ends z x"), at=2)
        self.assert_refused("NoTerm", read_book, with_terms("ends z x", "ends a reply"), name="z")
        self.assert_refused("Twice", read_book, with_terms(OTHER, "ends a reply"), name="c")


class Roles(Reading):
    def given(self):
        """For each role a row that gives the kind x this role in the term a (None: its term row does)."""
        return {
            "due": None, "from": None, "ends": "ends a x", "anew": "anew a x", "longer": "longer a x 1 times 1",
            "still": "still a x p", "goes on": "still a p x",
        }

    def again(self):
        """Rows that would give the kind x a role in the term a, none with another kind of it."""
        return ("ends a x", "anew a x", "longer a x 2 times 2", "still a x q", "still a q x")

    def front(self, role):
        owes = "x" if role == "due" else "reply"
        opens = "x" if role == "from" else "claim"
        rows = [f"term a of who due {owes} from {opens} 5 days", OTHER]
        return rows + [row for row in [self.given()[role]] if row is not None]

    def test_each_role_against_each(self):
        for role in self.given():
            rows = self.front(role)
            read_book("\n".join(rows))
            for row in self.again():
                self.assert_refused("Unfit", read_book, "\n".join(rows + [row]), at=len(rows))
                self.assert_refused("Unfit", read_book, "\n".join(rows + ["ends a y", row, "x"]), at=len(rows) + 1)

    def test_in_another_term_each_role_is_free(self):
        for role in self.given():
            rows = self.front(role)
            for row in self.again():
                other = row.replace(" a ", " c ")
                self.assertNotEqual(read_book("\n".join(rows + [other])).rule_of("c").role("x"), "")

    def test_the_kind_due_of_a_term_that_hangs(self):
        for row in self.again():
            text = TERM + "\nterm b of who due x behind a 5 days\n" + row.replace(" a ", " b ")
            self.assert_refused("Unfit", read_book, text, at=2)

    def test_names_are_no_kinds(self):
        text = TERM + "\nends a a\nanew a who\nlonger a days 1 times 1\nstill a ends term"
        self.assertEqual(read_book(text).rule_of("a").still, ("ends", "term"))
        self.assertEqual(read_book(TERM + "\n" + BEHIND + "\nends b a").rule_of("b").ends, ["a"])

    def test_a_still_row_of_one_kind_twice(self):
        self.assert_refused("Unfit", read_book, with_terms("still a x x"), at=2)

    def test_a_second_still_row(self):
        self.assert_refused("Unfit", read_book, with_terms("still a x y", "still a p q"), at=3)
        text = with_terms("still a x y", "still c x y", "ends a z", "still a p q")
        self.assert_refused("Unfit", read_book, text, at=5)
        self.assert_refused("Unfit", read_book, with_terms("still a x y", "still a y x"), at=3)
        self.assertEqual(read_book(with_terms("still a x y", "still c x y")).rule_of("c").still, ("x", "y"))

    def test_a_third_longer_row(self):
        rows = ["longer a x 1 times 1", "longer c x 1 times 1", "longer a y 1 times 1", "longer c y 1 times 1"]
        self.assertEqual(len(read_book(with_terms(*rows)).rule_of("a").longer), 2)
        self.assert_refused("Unfit", read_book, with_terms(*rows, "longer a z 1 times 1"), at=6)
        self.assert_refused("Unfit", read_book, with_terms(*rows, "ends a p", "longer c z 1 times 1"), at=7)

    def test_many_ends_and_anew_rows_are_taken(self):
        rows = [f"{sort} a {sort}{letter}" for sort in ("ends", "anew") for letter in "abcdefghijkl"]
        self.assertEqual(len(read_book(with_terms(*rows)).rule_of("a").ends), 12)


class Settled(Reading):
    def test_behind_a_term_that_no_row_tells(self):
        self.assert_refused("NoTerm", read_book, "term a of who due x behind z 5 days", name="z")
        self.assert_refused("NoTerm", read_book, with_terms("term b of who due x behind who 5 days"), name="who")
        self.assert_refused("NoTerm", read_book, with_terms("term b of who due x behind reply 5 days"), name="reply")

    def test_behind_a_term_that_a_later_row_tells(self):
        self.assertEqual(read_book(BEHIND + "\n" + TERM).hanging(), ["a", "b"])

    def test_behind_itself(self):
        self.assert_refused("Ring", read_book, "term a of who due x behind a 5 days", names=["a"])

    def test_yields_to_a_term_that_a_later_row_tells(self):
        self.assertEqual(read_book(TERM + "\nyields a c\n" + OTHER).rule_of("a").yields, ["c"])

    def test_yields_to_a_term_that_no_row_tells(self):
        self.assert_refused("NoTerm", read_book, with_terms("yields a z"), name="z")
        self.assert_refused("NoTerm", read_book, with_terms("yields a who"), name="who")

    def test_yields_to_itself(self):
        self.assert_refused("Unfit", read_book, with_terms("yields a a"), at=2)

    def test_yields_to_a_term_of_another_kind_due(self):
        self.assert_refused("Unfit", read_book, TERM + "\n" + BEHIND + "\nyields a b", at=2)
        self.assert_refused("Unfit", read_book, TERM + "\n" + BEHIND + "\nyields b a", at=2)
        self.assert_refused("Unfit", read_book, TERM + "\nyields a b\n" + BEHIND, at=1)
        # Ended by its kind due it may be, but that is another role.
        self.assert_refused("Unfit", read_book, TERM + "\n" + BEHIND + "\nends a plea\nyields a b", at=3)

    def test_yields_to_the_same_one_twice(self):
        self.assert_refused("Unfit", read_book, with_terms("yields a c", "yields a c"), at=3)
        self.assert_refused("Unfit", read_book, with_terms("yields a c", "yields c a", "ends a x", "yields c a"), at=5)
        self.assert_refused("Unfit", read_book, TERM + "\nyields a c\nyields a c\n" + OTHER, at=2)

    def test_a_bad_row_late_in_the_text_goes_ahead(self):
        early = ("yields a z", "yields a a", "term b of who due x behind z 5 days")
        for row in early:
            self.assert_no_rule(3, with_terms(row, "nothing"))
            self.assert_no_rule(3, with_terms(row, ""))
            self.assert_refused("Unfit", read_book, with_terms(row, "ends a reply"), at=3)
            self.assert_refused("Twice", read_book, with_terms(row, TERM), name="a")
            self.assert_refused("NoTerm", read_book, with_terms(row, "ends y x"), name="y")

    def test_in_the_order_of_the_rows(self):
        self.assert_refused("NoTerm", read_book, with_terms("yields a z", "yields a a"), name="z")
        self.assert_refused("Unfit", read_book, with_terms("yields a a", "yields a z"), at=2)
        self.assert_refused("NoTerm", read_book, with_terms("yields a z", "yields a y"), name="z")
        row = "term b of who due x behind y 5 days"
        self.assert_refused("NoTerm", read_book, with_terms("yields a z", row), name="z")
        self.assert_refused("NoTerm", read_book, with_terms(row, "yields a z"), name="y")
        self.assert_refused("Unfit", read_book, with_terms("yields a a", row), at=2)
        other = "term d of who due x behind z 5 days"
        self.assert_refused("NoTerm", read_book, with_terms(row, other), name="y")
        self.assert_refused("NoTerm", read_book, with_terms(other, row), name="z")


class Rings(Reading):
    def text(self, *bases):
        rows = []
        for name, base in zip("abcdef", bases):
            begin = "from claim" if base is None else f"behind {base}"
            rows.append(f"term {name} of who due reply {begin} 5 days")
        return "\n".join(rows)

    def assert_ring(self, text, *rings):
        """Refused is the text with one of these rings, beginning with any of its names."""
        turns = [list(ring[k:] + ring[:k]) for ring in rings for k in range(len(ring))]
        try:
            read_book(text)
        except Ring as e:
            self.assertIn(e.names, turns)
        else:
            self.fail("nothing was refused")

    def test_rings_of_one_two_and_six(self):
        self.assert_ring(self.text("a"), "a")
        self.assert_ring(self.text(None, "b"), "b")
        self.assert_ring(self.text("b", "a"), "ab")
        self.assert_ring(self.text("b", "c", "a"), "abc")
        self.assert_ring(self.text("b", "c", "d", "e", "f", "a"), "abcdef")
        self.assert_ring(self.text("f", "a", "b", "c", "d", "e"), "afedcb")

    def test_with_terms_that_hang_on_it_from_outside(self):
        self.assert_ring(self.text("b", "c", "b"), "bc")
        self.assert_ring(self.text("b", "c", "d", "c"), "cd")
        self.assert_ring(self.text("b", "b"), "b")
        self.assert_ring(self.text("a", "a", "b", "c", "d", "e"), "a")
        self.assert_ring(self.text("b", "c", "d", "e", "f", "f"), "f")

    def test_two_rings(self):
        self.assert_ring(self.text("a", "b"), "a", "b")
        self.assert_ring(self.text("b", "a", "d", "c", "c", "a"), "ab", "cd")
        self.assert_ring(self.text("b", "c", "a", "e", "f", "d"), "abc", "def")

    def test_all_else_goes_ahead(self):
        ring = self.text("b", "a")
        self.assert_no_rule(2, ring + "\nx")
        self.assert_refused("Unfit", read_book, ring + "\nends a reply", at=2)
        self.assert_refused("Unfit", read_book, ring + "\nyields a a", at=2)
        self.assert_refused("NoTerm", read_book, ring + "\nyields a z", name="z")
        self.assert_refused("NoTerm", read_book, ring + "\nterm c of who due reply behind z 5 days", name="z")

    def test_yields_in_a_ring_are_no_ring(self):
        text = self.text(None, None, None) + "\nyields a b\nyields b c\nyields c a\nyields b a"
        self.assertEqual(read_book(text).rule_of("b").yields, ["c", "a"])


class ByTheWords(AtOnce):
    def by_the_words(self, text):
        try:
            return list(book_walk.read(text).values())
        except book_walk.Refused as e:
            return e.args

    def by_the_program(self, text):
        try:
            return told(read_book(text))
        except Ring as e:
            terms = book_walk.first_reading(text.split("\n"))
            for at, name in enumerate(e.names):
                self.assertEqual(terms[name]["base"], e.names[(at + 1) % len(e.names)])
            self.assertEqual(len(e.names), len(set(e.names)))
            return ("Ring", None)
        except CourtError as e:
            return (e.__class__.__name__,) + e.args

    def test_books_that_were_spoilt_a_little(self):
        chance = random.Random(24)
        found = {}
        for sound in some_books(4, 1500):
            rows = sound
            for turn in range(6):
                # By and by there is more than one fault in it; then it is begun with the sound one again.
                rows = spoilt(chance, rows if turn % 3 and rows else sound)
                text = "\n".join(rows)
                words = self.by_the_words(text)
                self.assertEqual(self.by_the_program(text), words, text)
                sort = words[0] if isinstance(words, tuple) else "taken"
                found[sort] = found.get(sort, 0) + 1
        self.assertEqual(sorted(found), ["NoRule", "NoTerm", "Ring", "Twice", "Unfit", "taken"])
        self.assertGreater(min(found.values()), 20, found)

    def test_texts_of_very_many_signs(self):
        for text in ("x" * 10 ** 6, " " * 10 ** 6, "\n" * 10 ** 6, "term " * 10 ** 5, (TERM + "\n") * 10 ** 4,
                     TERM + " " * 10 ** 6, "term a of who due reply from claim " + "4" * 10 ** 6 + " days"):
            words = self.by_the_words(text)
            self.assertIsInstance(words, tuple)
            self.assertEqual(self.by_the_program(text), words)

    def test_numbers_of_each_length(self):
        for figures in range(2, 400):
            for row in (f"term b of who due reply from claim {written(figures)} days",
                        f"longer a grant {written(figures)} times 1", f"longer a grant 1 times {written(figures)}"):
                text = with_terms(row)
                if figures > 2:
                    self.assertEqual(self.by_the_program(text), ("NoRule", 2))
                self.assertEqual(self.by_the_program(text), self.by_the_words(text))


if __name__ == "__main__":
    unittest.main()
