"""Point [2]: what a whole number is, and what a name is."""

import string
import unittest

from samples import not_wholes, wholes_of_all_sizes
from termcourt.wholes import is_name, is_whole

LETTERS = string.ascii_lowercase
SIGNS = [chr(k) for k in range(ord(" "), ord("~") + 1)] + ["\t", "\n"]
OTHER_SIGNS = [sign for sign in SIGNS if sign not in LETTERS]


class Wholes(unittest.TestCase):
    def test_small_numbers(self):
        for number in range(-400, 401):
            with self.subTest(number=number):
                self.assertIs(is_whole(number), True)

    def test_numbers_of_many_figures(self):
        for number in wholes_of_all_sizes():
            self.assertIs(is_whole(number), True, number)
            self.assertIs(is_whole(-number), True, -number)

    def test_what_is_no_whole_number(self):
        for thing in not_wholes():
            with self.subTest(thing=thing):
                self.assertIs(is_whole(thing), False)

    def test_truths_equal_to_numbers(self):
        self.assertIs(is_whole(True), False)
        self.assertIs(is_whole(1), True)
        self.assertIs(is_whole(False), False)
        self.assertIs(is_whole(0), True)


class Names(unittest.TestCase):
    def test_lengths(self):
        for letter in LETTERS:
            for length in range(0, 30):
                with self.subTest(letter=letter, length=length):
                    self.assertIs(is_name(letter * length), 1 <= length <= 8)

    def test_ordinary_names(self):
        for name in ("reply", "appeal", "z", "az", "abcdefgh", "ijklmnop", "qrstuvwx", "yz", "free", "none"):
            with self.subTest(name=name):
                self.assertIs(is_name(name), True)

    def test_long_texts(self):
        for text in ("abcdefghi", LETTERS, "a" * 100, "a" * 100000):
            self.assertIs(is_name(text), False)

    def test_each_small_letter_at_each_place(self):
        for length in range(1, 9):
            for at in range(length):
                for letter in LETTERS:
                    text = "m" * at + letter + "m" * (length - at - 1)
                    self.assertIs(is_name(text), True, text)

    def test_each_other_sign_at_each_place(self):
        for length in range(1, 10):
            for at in range(length):
                for sign in OTHER_SIGNS:
                    text = "m" * at + sign + "m" * (length - at - 1)
                    self.assertIs(is_name(text), False, repr(text))

    def test_texts_of_other_signs_alone(self):
        for sign in OTHER_SIGNS:
            for length in range(1, 10):
                self.assertIs(is_name(sign * length), False, repr(sign))

    def test_eight_letters_and_another_sign(self):
        for text in ("abcdefgh\n", "\nabcdefgh", "abcdefgh ", " abcdefgh", "abcd efgh", "abcdefg\n"):
            with self.subTest(text=text):
                self.assertIs(is_name(text), False)

    def test_what_is_no_text(self):
        things = [
            None, True, False, 0, 1, 12, -1, 10 ** 299, 1.5, b"abc", b"a", object(), str,
            [], ["a"], ["a", "b"], ["abc"], (), ("a",), ("a", "b"), ("abc",),
            {}, {"a": 1}, {"a": 1, "b": 2}, set("abc"), frozenset("a"), iter("abc"), range(3),
        ]
        for thing in things:
            with self.subTest(thing=thing):
                self.assertIs(is_name(thing), False)


class NothingIsChanged(unittest.TestCase):
    def test_lists_and_dicts_stay_as_they_were(self):
        for ask in (is_whole, is_name):
            for thing, same in (([1, "a"], [1, "a"]), ({"a": [1]}, {"a": [1]}), (["b", "a"], ["b", "a"])):
                with self.subTest(ask=ask, thing=thing):
                    self.assertIs(ask(thing), False)
                    self.assertEqual(thing, same)


if __name__ == "__main__":
    unittest.main()
