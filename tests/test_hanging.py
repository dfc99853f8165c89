"""The order of hanging, points [25] and [26], of rules and of books."""

import itertools
import unittest

from book_samples import behind_rule, from_rule, hung
from history_walk import order
from limits import AtOnce
from refused import Refusing
from termcourt.books import Book
from termcourt.errors import Ring
from termcourt.hanging import hanging_order

CASES = (
    ((), ""),
    ((None,), "a"),
    ((None, None, None), "abc"),
    # Chains told forwards, backwards and mixed.
    ((None, "a", "b"), "abc"),
    (("b", "c", None), "cba"),
    (("b", "c", "d", "e", "f", None), "fedcba"),
    ((None, "a", "b", "c", "d", "e"), "abcdef"),
    (("c", None, "b"), "bca"),
    ((None, "c", "a"), "acb"),
    (("d", "a", "e", None, "b", "c"), "dabecf"),
    ((None, "f", "e", "a", "d", "c"), "adecfb"),
    # Several chains, and terms without any.
    ((None, "d", "a", None), "adbc"),
    (("c", "d", None, None), "cadb"),
    ((None, "e", None, "f", None, None), "aebcfd"),
    # Several terms on one.
    (("c", "c", None), "cab"),
    (("f", "f", "f", "f", "f", None), "fabcde"),
    ((None, "a", "a", "b", "b", "c"), "abcdef"),
    (("d", "d", "a", None, "b", "b"), "dabcef"),
)
RINGS = (
    (("a",), ["a"]),
    (("b", "a"), ["ab"]),
    (("b", "c", "a"), ["abc"]),
    (("c", "a", "b"), ["acb"]),
    (("b", "c", "d", "e", "f", "a"), ["abcdef"]),
    (("f", "a", "b", "c", "d", "e"), ["afedcb"]),
    (("d", "f", "a", "e", "b", "c"), ["adebfc"]),
    # Terms that hang on the ring from outside, told ahead of it and behind it, and terms beside it.
    (("b", "c", "b"), ["bc"]),
    (("b", "b"), ["b"]),
    (("a", "a"), ["a"]),
    ((None, "a", "c"), ["c"]),
    (("b", "c", "d", "e", "f", "d"), ["def"]),
    (("b", "a", "a", "c", "d", None), ["ab"]),
    ((None, None, "d", "c", "c", "e"), ["cd"]),
    # Several rings: any may be told.
    (("a", "b"), ["a", "b"]),
    (("b", "a", "d", "c"), ["ab", "cd"]),
    (("b", "c", "a", "e", "f", "d"), ["abc", "def"]),
    (("b", "a", "a", "e", "d", "d"), ["ab", "de"]),
)


def is_ring(names, rules):
    bases = {rule.name: rule.base for rule in rules}
    follows = all(bases[name] == names[(at + 1) % len(names)] for at, name in enumerate(names))
    return follows and len(set(names)) == len(names) > 0


def ring_of(ask, rules):
    """The names of the ring that is refused, None where none is."""
    try:
        ask(rules)
    except Ring as e:
        return e.names
    return None


def turns_of(text):
    return [list(text[k:] + text[:k]) for k in range(len(text))]


class Order(unittest.TestCase):
    def test_by_hand(self):
        for bases, names in CASES:
            with self.subTest(bases=bases):
                self.assertEqual(hanging_order(hung(*bases)), list(names))
                self.assertEqual(Book(hung(*bases)).hanging(), list(names))

    def test_of_names_that_stand_in_another_order_than_the_rows(self):
        rules = [from_rule("zebra"), behind_rule("ant", "yak"), behind_rule("mouse", "ant"), from_rule("yak")]
        self.assertEqual(hanging_order(rules), ["zebra", "yak", "ant", "mouse"])
        self.assertEqual(Book(rules).hanging(), ["zebra", "yak", "ant", "mouse"])

    def test_all_ways_in_which_four_terms_hang(self):
        rings = 0
        for bases in itertools.product([None, "a", "b", "c", "d"], repeat=4):
            rules = hung(*bases)
            ring = ring_of(hanging_order, rules)
            if ring is None:
                self.assertEqual(hanging_order(rules), order(rules))
                self.assertEqual(Book(rules).hanging(), order(rules))
            else:
                rings += 1
                self.assertTrue(is_ring(ring, rules), (bases, ring))
                self.assertTrue(is_ring(ring_of(Book, rules), rules), bases)
        # Of the 625 ways those without a ring are (4 + 1) ** 3.
        self.assertEqual(rings, 500)

    def test_all_orders_in_which_a_chain_of_six_is_told(self):
        chain = hung(None, "a", "b", "c", "d", "e")
        for rules in itertools.permutations(chain):
            self.assertEqual(hanging_order(list(rules)), list("abcdef"))

    def test_more_terms_than_a_book_has(self):
        for bases in ((None, "a", "b", "c", "d", "e", "f"), ("b", "c", "d", "e", "f", "g", None), (None,) * 9):
            self.assertEqual(hanging_order(hung(*bases)), order(hung(*bases)))


class Rings(Refusing):
    def test_by_hand(self):
        for bases, rings in RINGS:
            turns = [turn for ring in rings for turn in turns_of(ring)]
            with self.subTest(bases=bases):
                self.assertIn(ring_of(hanging_order, hung(*bases)), turns)
                self.assertIn(ring_of(Book, hung(*bases)), turns)

    def test_refused_as_a_ring_and_nothing_else(self):
        for ask in (hanging_order, Book):
            self.assert_refused("Ring", ask, hung("a"), names=["a"])
            self.assert_refused("Ring", ask, hung(None, "c", "c"), names=["c"])
            self.assert_refused("Ring", ask, hung("b", "a"))

    def test_the_names_are_a_list(self):
        for bases, rings in RINGS:
            self.assertIs(type(ring_of(hanging_order, hung(*bases))), list)


class WhatIsHandedIn(AtOnce):
    def test_the_list_of_rules_stays(self):
        for bases, names in CASES:
            rules = hung(*bases)
            handed = list(rules)
            hanging_order(handed)
            self.assertEqual(handed, rules)
            self.assertEqual([rule.base for rule in rules], list(bases))

    def test_the_told_list_is_the_askers_own(self):
        rules = hung("b", None)
        first = hanging_order(rules)
        first.append("x")
        self.assertEqual(hanging_order(rules), ["b", "a"])
        book = Book(rules)
        told = book.hanging()
        told.clear()
        self.assertEqual(book.hanging(), ["b", "a"])

    def test_the_argument_has_the_name_told(self):
        self.assertEqual(hanging_order(rules=hung(None, "a")), ["a", "b"])
        self.assertEqual(Book(rules=hung(None, "a")).hanging(), ["a", "b"])


if __name__ == "__main__":
    unittest.main()
