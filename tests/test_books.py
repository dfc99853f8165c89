"""Books: read to the fields of their rules, asked, and shown; points [23], [26] and [27]."""

import unittest

import book_walk
from book_samples import (
    FIELDS, MIXED, SHOWN, behind_rule, book_of, fields, from_rule, hung, rule_with, some_books, told,
)
from limits import AtOnce
from refused import Refusing
from samples import written
from termcourt.books import Book, read_book, show_book
from termcourt.rules import Rule

TERM = "term a of who due reply from claim 5 days"


def lone(text, name="a"):
    """The fields of a term that the text tells."""
    return fields(read_book(text).rule_of(name))


class Rows(unittest.TestCase):
    def assert_told(self, text, **other):
        """The text tells a term a with the fields of TERM, but these."""
        plain = {
            "name": "a", "who": "who", "owes": "reply", "opens": "claim", "base": None, "many": 5, "unit": "days",
            "still": None, "ends": [], "anew": [], "longer": [], "yields": [],
        }
        self.assertEqual(lone(text), {**plain, **other})

    def test_a_term_from_a_kind(self):
        self.assert_told(TERM)
        self.assert_told("term a of b due c from d 1 weeks", who="b", owes="c", opens="d", many=1, unit="weeks")
        self.assert_told("term a of b due c from d 40 court", who="b", owes="c", opens="d", many=40, unit="court")

    def test_a_term_behind_another_one(self):
        text = TERM + "\nterm b of me due plea behind a 7 court"
        self.assertEqual(lone(text, "b"), {
            "name": "b", "who": "me", "owes": "plea", "opens": None, "base": "a", "many": 7, "unit": "court",
            "still": None, "ends": [], "anew": [], "longer": [], "yields": [],
        })
        self.assert_told(text)

    def test_a_term_behind_one_that_a_later_row_tells(self):
        self.assertEqual(lone("term b of me due plea behind a 7 court\n" + TERM, "b")["base"], "a")

    def test_ends(self):
        self.assert_told(TERM + "\nends a drop", ends=["drop"])
        self.assert_told(TERM + "\nends a z\nends a b\nends a y", ends=["z", "b", "y"])

    def test_anew(self):
        self.assert_told(TERM + "\nanew a serve", anew=["serve"])
        self.assert_told(TERM + "\nanew a z\nanew a b\nanew a y", anew=["z", "b", "y"])

    def test_longer(self):
        self.assert_told(TERM + "\nlonger a grant 1 times 1", longer=[("grant", 1, 1)])
        self.assert_told(TERM + "\nlonger a z 20 times 3\nlonger a b 7 times 2", longer=[("z", 20, 3), ("b", 7, 2)])

    def test_still(self):
        self.assert_told(TERM + "\nstill a halt resume", still=("halt", "resume"))

    def test_yields(self):
        other = "\nterm b of who due reply from cry 5 days\nterm c of who due reply from cry 5 days"
        self.assert_told(TERM + other + "\nyields a b", yields=["b"])
        self.assert_told(TERM + other + "\nyields a c\nyields a b", yields=["c", "b"])
        self.assert_told(TERM + "\nyields a b" + other, yields=["b"])
        self.assert_told(TERM + other + "\nyields b a\nyields b c")

    def test_a_term_gives_way_both_ways(self):
        book = read_book(MIXED)
        self.assertEqual(book.rule_of("answer").yields, ["default"])
        self.assertEqual(book.rule_of("default").yields, ["answer"])

    def test_each_unit_and_each_number(self):
        for unit in ("days", "weeks", "court"):
            for many in range(1, 41):
                row = f"term a of who due reply from claim {many} {unit}"
                self.assert_told(row, many=many, unit=unit)
        for units in range(1, 21):
            for times in range(1, 4):
                row = f"longer a grant {units} times {times}"
                self.assert_told(TERM + "\n" + row, longer=[("grant", units, times)])

    def test_words_of_rows_are_names_too(self):
        rows = ["term term of of due due from from 4 days", "ends term ends", "anew term anew",
                "longer term longer 5 times 2", "still term still times",
                "term days of weeks due due behind term 3 court", "yields term days", "longer days court 5 times 2"]
        book = read_book("\n".join(rows))
        self.assertEqual(fields(book.rule_of("term")), {
            "name": "term", "who": "of", "owes": "due", "opens": "from", "base": None, "many": 4, "unit": "days",
            "still": ("still", "times"), "ends": ["ends"], "anew": ["anew"], "longer": [("longer", 5, 2)],
            "yields": ["days"],
        })
        self.assertEqual(book.term_names(), ["term", "days"])

    def test_names_of_one_and_of_eight_letters(self):
        row = "term abcdefgh of z due zyxwvuts from q 4 days"
        self.assertEqual(lone(row, "abcdefgh")["owes"], "zyxwvuts")

    def test_one_kind_in_one_role_of_several_terms_and_in_another_one_of_others(self):
        text = TERM + "\nterm b of who due claim from reply 5 days\nterm c of who due reply from claim 5 days"
        text += "\nends a x\nends b x\nanew c x\nends a b\nends a a"
        book = read_book(text)
        self.assertEqual([book.rule_of(name).role("x") for name in "abc"], ["ends", "ends", "anew"])
        self.assertEqual(book.rule_of("a").ends, ["x", "b", "a"])

    def test_still_is_a_tuple_and_longer_has_tuples(self):
        rule = read_book(MIXED).rule_of("answer")
        self.assertIsInstance(rule, Rule)
        self.assertIs(type(rule.still), tuple)
        self.assertEqual([type(row) for row in rule.longer], [tuple, tuple])
        self.assertEqual([type(part) for part in rule.longer[0]], [str, int, int])
        self.assertIs(type(rule.many), int)

    def test_a_book_without_rows(self):
        book = read_book("")
        self.assertIsInstance(book, Book)
        self.assertEqual((book.term_names(), book.hanging(), book.act_kinds()), ([], [], []))
        self.assertEqual(show_book(book), "")

    def test_six_terms_and_forty_rows(self):
        rows = [f"term {name} of who due reply from claim 5 days" for name in "abcdef"]
        rows += [f"ends {name} {kind}" for name in "ab" for kind in ("k", "l", "m", "n", "o", "p", "q", "r", "s", "t")]
        rows += [f"anew {name} {kind}" for name in "cdefab" for kind in ("u", "v")]
        rows += ["longer a x 1 times 1", "longer a y 1 times 1"]
        self.assertEqual(len(rows), 40)
        book = read_book("\n".join(rows))
        self.assertEqual(book.term_names(), list("abcdef"))
        self.assertEqual(book.rule_of("b").ends, list("klmnopqrst"))
        self.assertEqual(book.rule_of("a").longer, [("x", 1, 1), ("y", 1, 1)])

    def test_mixed_rows(self):
        self.assertEqual([told_one["name"] for told_one in told(read_book(MIXED))], ["answer", "appeal", "default"])
        rule = read_book(MIXED).rule_of("answer")
        self.assertEqual(rule.ends, ["settle", "drop"])
        self.assertEqual(rule.anew, ["amend", "serve"])
        self.assertEqual(rule.longer, [("grant", 7, 2), ("favour", 20, 3)])
        self.assertEqual(rule.still, ("halt", "resume"))

    def test_many_books_are_read_as_by_the_words(self):
        for rows in some_books(1, 400):
            text = "\n".join(rows)
            terms = book_walk.read(text)
            book = read_book(text)
            self.assertEqual(told(book), list(terms.values()))
            self.assertEqual(book.term_names(), list(terms))
            self.assertEqual(book.hanging(), book_walk.hanging(terms))
            self.assertEqual(show_book(book), book_walk.shown(terms))
            kinds = {kind for term in terms.values() for kind in book_walk.roles(term)}
            self.assertEqual(book.act_kinds(), sorted(kinds))


class Asked(Refusing):
    def test_names_in_the_order_of_the_rows(self):
        self.assertEqual(read_book(MIXED).term_names(), ["answer", "appeal", "default"])
        rules = [from_rule("z"), behind_rule("a", "m"), from_rule("m")]
        self.assertEqual(Book(rules).term_names(), ["z", "a", "m"])
        self.assertEqual(Book(rules).hanging(), ["z", "m", "a"])

    def test_the_rule_itself(self):
        rules = hung(None, "a", None)
        book = Book(rules)
        for rule in rules:
            self.assertIs(book.rule_of(rule.name), rule)
            self.assertIs(book.rule_of(rule.name), book.rule_of(rule.name))

    def test_a_text_that_is_no_terms_name(self):
        for book in (read_book(MIXED), Book([]), read_book(""), Book(hung(None, "a"))):
            for text in ("x", "", "reply", "buyer", "Answer", "answer ", " answer", "answer\n", "c" * 5000, "1"):
                self.assert_refused("NoTerm", book.rule_of, text, name=text)

    def test_kinds_sorted_each_once(self):
        kinds = ["amend", "claim", "drop", "favour", "grant", "halt", "plea", "reply", "resume", "serve", "settle",
                 "waive", "warning"]
        self.assertEqual(read_book(MIXED).act_kinds(), kinds)
        self.assertEqual(read_book(TERM).act_kinds(), ["claim", "reply"])

    def test_kinds_of_each_role(self):
        for more in ({"ends": ["c"]}, {"anew": ["c"]}, {"longer": [("c", 3, 2)]}):
            self.assertEqual(book_of(rule_with(from_rule("x", "b", "a"), **more)).act_kinds(), ["a", "b", "c"])
        self.assertEqual(book_of(from_rule("x", "b", "a", still=("d", "c"))).act_kinds(), ["a", "b", "c", "d"])

    def test_kinds_of_terms_that_hang_and_no_names_of_terms(self):
        book = book_of(rule_with(behind_rule("x", "y", "z"), yields=["y"]), from_rule("y", "a", "z"))
        self.assertEqual(book.act_kinds(), ["a", "z"])

    def test_nothing_but_a_ring_is_refused_of_rules_made_by_hand(self):
        odd = rule_with(from_rule("a", "claim", "reply", written(60), "court", ("halt", "halt")), ends=["halt", "halt"],
                        anew=["x", "reply"], longer=[("x", written(60), 4)] * 5, yields=["a", "b", "b"])
        rules = [odd] + [from_rule(name, "same", "same", 41) for name in "bcdefgh"]
        book = Book(rules)
        self.assertEqual(book.term_names(), list("abcdefgh"))
        self.assertEqual(book.act_kinds(), ["claim", "halt", "reply", "same", "x"])
        self.assertIs(book.rule_of("a"), odd)


class Shown(unittest.TestCase):
    def test_rows_that_stood_mixed(self):
        self.assertEqual(show_book(read_book(MIXED)), SHOWN)

    def test_what_is_shown_is_read_to_the_same_book(self):
        for rows in [MIXED.split("\n"), SHOWN.split("\n")] + some_books(2, 300):
            book = read_book("\n".join(rows))
            shown = show_book(book)
            again = read_book(shown)
            self.assertEqual(told(again), told(book))
            self.assertEqual(again.term_names(), book.term_names())
            self.assertEqual(again.hanging(), book.hanging())
            self.assertEqual(again.act_kinds(), book.act_kinds())
            self.assertEqual(show_book(again), shown)
            self.assertEqual(sorted(shown.split("\n")), sorted(rows))

    def test_one_term(self):
        for text in (TERM, TERM + "\nends a drop", TERM + "\nanew a serve", TERM + "\nlonger a grant 20 times 3",
                     TERM + "\nstill a halt resume", "term a of who due reply from claim 40 court"):
            self.assertEqual(show_book(read_book(text)), text)

    def test_a_term_that_hangs_on_a_later_one(self):
        text = "term b of who due reply behind a 3 weeks\nyields b a\n" + TERM
        self.assertEqual(show_book(read_book(text)), text)

    def test_yields_in_the_order_told(self):
        rows = [f"term {name} of who due reply from claim 5 days" for name in "abc"]
        text = "\n".join(rows + ["yields a c", "yields b a", "yields a b"])
        shown = "\n".join([rows[0], "yields a c", "yields a b", rows[1], "yields b a", rows[2]])
        self.assertEqual(show_book(read_book(text)), shown)

    def test_books_made_of_rules(self):
        first = from_rule("z", still=("halt", "resume"))
        rule_with(first, ["y", "b"], ["x"], [("g", 3, 2), ("f", 20, 1)], ["a"])
        book = book_of(first, behind_rule("a", "m", many=2, unit="weeks"), from_rule("m", many=40, unit="court"))
        self.assertEqual(show_book(book), "\n".join([
            "term z of buyer due reply from claim 10 days", "ends z y", "ends z b", "anew z x",
            "longer z g 3 times 2", "longer z f 20 times 1", "still z halt resume", "yields z a",
            "term a of buyer due reply behind m 2 weeks",
            "term m of buyer due reply from claim 40 court",
        ]))

    def test_books_made_of_the_rules_of_one_that_was_read(self):
        for rows in some_books(3, 100):
            book = read_book("\n".join(rows))
            names = list(reversed(book.term_names()))
            other = Book([book.rule_of(name) for name in names])
            self.assertEqual(other.term_names(), names)
            self.assertEqual(told(read_book(show_book(other))), told(other))

    def test_numbers_of_many_figures(self):
        many = written(300)
        rule = rule_with(from_rule("a", many=many), longer=[("g", many, many)])
        rows = [f"term a of buyer due reply from claim {many} days", f"longer a g {many} times {many}"]
        self.assertEqual(show_book(book_of(rule)), "\n".join(rows))


class OwnLists(AtOnce):
    def test_the_list_of_rules_that_was_handed_in(self):
        rules = hung(None, "a", "b")
        handed = list(rules)
        book = Book(handed)
        self.assertEqual(handed, rules)
        handed.clear()
        self.assertEqual(book.term_names(), ["a", "b", "c"])
        self.assertEqual(book.hanging(), ["a", "b", "c"])
        self.assertEqual(book.act_kinds(), ["claim", "reply"])
        self.assertIs(book.rule_of("c"), rules[2])
        handed.append(from_rule("x", "k", "l"))
        self.assertEqual(book.act_kinds(), ["claim", "reply"])
        self.assertEqual(len(show_book(book).split("\n")), 3)

    def test_the_rules_stay_as_they_were(self):
        rule = rule_with(from_rule("a", still=("halt", "resume")), ["b"], ["c"], [("d", 3, 2)], ["e"])
        before = {field: repr(getattr(rule, field)) for field in FIELDS}
        book = book_of(rule)
        for turn in range(2):
            book.act_kinds()
            book.hanging()
            show_book(book)
        self.assertEqual({field: repr(getattr(rule, field)) for field in FIELDS}, before)

    def test_told_lists_are_the_askers_own(self):
        book = read_book(MIXED)
        for ask in (book.term_names, book.hanging, book.act_kinds):
            first = ask()
            same = list(first)
            self.assertIs(type(first), list)
            first.append("x")
            first.reverse()
            self.assertEqual(ask(), same)
            second = ask()
            second.clear()
            self.assertEqual(ask(), same)
        self.assertEqual(show_book(book), SHOWN)

    def test_two_books_of_one_text_share_no_lists(self):
        first = read_book(MIXED)
        second = read_book(MIXED)
        for name in first.term_names():
            for field in ("ends", "anew", "longer", "yields"):
                self.assertIsNot(getattr(first.rule_of(name), field), getattr(second.rule_of(name), field))

    def test_arguments_have_the_names_told(self):
        book = read_book(text=MIXED)
        self.assertEqual(show_book(book=book), SHOWN)
        self.assertEqual(book.rule_of(name="appeal").many, 2)
        self.assertEqual(Book(rules=[from_rule("a")]).term_names(), ["a"])


if __name__ == "__main__":
    unittest.main()
