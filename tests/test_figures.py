"""Point [23], what is said of numbers: those that a text writes."""

import unittest

from limits import AtOnce
from samples import wholes_of_all_sizes, written
from termcourt.figures import number

MOSTS = (1, 2, 3, 7, 9, 10, 20, 40, 99, 100, written(59), 10 ** 59, written(60), 10 ** 60 - 1, written(300))
BAD_SIGNS = ("+", "-", " ", "\t", "\n", "_", "a", "e", "x", "l", "O", "Z", ".", ",", "/", ":", "'", '"', "(", "~")
WRITTEN = ("1", "7", "9", "10", "12", "38", "40", "100", "1000", str(written(60)))


class Taken(AtOnce):
    def test_by_hand(self):
        self.assertEqual(number("1", 40), 1)
        self.assertEqual(number("9", 40), 9)
        self.assertEqual(number("10", 40), 10)
        self.assertEqual(number("39", 40), 39)
        self.assertEqual(number("40", 40), 40)

    def test_one_is_the_least(self):
        for most in MOSTS:
            self.assertEqual(number("1", most), 1)

    def test_most_is_the_greatest(self):
        for most in MOSTS:
            self.assertEqual(number(str(most), most), most)

    def test_each_up_to_most(self):
        for most in (1, 3, 9, 10, 20, 40, 99, 100, 101):
            for many in range(1, most + 1):
                self.assertEqual(number(str(many), most), many)

    def test_numbers_of_each_number_of_figures(self):
        for many in wholes_of_all_sizes()[1:]:
            self.assertEqual(number(str(many), many), many)
            self.assertEqual(number(str(many), many + 1), many)
            self.assertEqual(number(str(many), 10 ** 300), many)

    def test_whole_numbers_are_told(self):
        for text in WRITTEN:
            self.assertIs(type(number(text, 10 ** 60)), int)


class NotTaken(AtOnce):
    def assert_none(self, text, mosts=MOSTS):
        for most in mosts:
            with self.subTest(text=text[:100], most=most):
                self.assertIsNone(number(text, most))

    def test_nought(self):
        for text in ("0", "00", "000", "0" * 60, "0" * 300):
            self.assert_none(text)

    def test_above_most(self):
        for most in MOSTS:
            for many in (most + 1, most + 2, 2 * most + 1, 10 * most, 10 * most + 1, 10 ** 300, 10 ** 301):
                self.assert_none(str(many), [most])

    def test_each_above_most(self):
        for most in (1, 3, 9, 10, 20, 40, 99):
            for many in range(most + 1, 200):
                self.assert_none(str(many), [most])

    def test_one_more_and_one_fewer(self):
        for many in wholes_of_all_sizes()[1:]:
            self.assert_none(str(many + 1), [many])
            if many > 1:
                self.assert_none(str(many), [many - 1])

    def test_the_text_without_signs(self):
        self.assert_none("")

    def test_a_nought_in_front(self):
        for text in WRITTEN:
            for noughts in (1, 2, 5, 58, 59, 60, 240):
                self.assert_none("0" * noughts + text)

    def test_a_sign_too_many_at_each_place(self):
        for text in WRITTEN:
            for sign in BAD_SIGNS:
                for at in range(len(text) + 1):
                    self.assert_none(text[:at] + sign + text[at:], (9, 40, 1000, 10 ** 60, 10 ** 299))

    def test_another_sign_in_the_place_of_one(self):
        for text in WRITTEN:
            for sign in BAD_SIGNS:
                for at in range(len(text)):
                    self.assert_none(text[:at] + sign + text[at + 1:], (9, 40, 1000, 10 ** 60, 10 ** 299))

    def test_signs_alone(self):
        for sign in BAD_SIGNS + ("term", "days", "None", "one", "++", "--", "0x1", "1e1", "1.0", "1 1", "1\n1"):
            self.assert_none(sign)

    def test_signs_at_both_ends(self):
        for text in (" 1 ", "\n1\n", "\t7\t", "+1+", "-1-", "_1_", "(1)", "'1'", "1_0", "1_000", "1,000", " 1", "1 "):
            self.assert_none(text)

    def test_texts_of_thousands_of_signs(self):
        for length in (301, 4299, 4300, 4301, 5000, 100000, 1000000):
            for sign in "1290+- \t\n_a":
                self.assert_none(sign * length, (1, 9, 40, 10 ** 60))
            self.assert_none("1" + "0" * length, (1, 9, 40, 10 ** 60))
            self.assert_none("0" * length + "1", (1, 9, 40, 10 ** 60))
            self.assert_none("1" + " " * length, (1, 9, 40, 10 ** 60))
            self.assert_none("1\n" * length, (1, 9, 40, 10 ** 60))


class ByTheNamesOfTheInterface(unittest.TestCase):
    def test_arguments_have_the_names_told(self):
        self.assertEqual(number(text="7", most=9), 7)


if __name__ == "__main__":
    unittest.main()
