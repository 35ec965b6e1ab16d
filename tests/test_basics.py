"""Promise [2]: what is an INTEGER, a COUNT and a NAME."""

import unittest

from hookvows.basics import is_count, is_integer, is_name
from tests.samples import RIGHT_NAMES, WRONG_NAMES, no_integers, no_strings

GREAT = 10 ** 29


class TestIntegers(unittest.TestCase):
    def test_ints_are_integers(self):
        for value in [0, 1, -1, 2, -2, 255, GREAT, -GREAT]:
            self.assertIs(is_integer(value), True)

    def test_truths_are_none(self):
        self.assertIs(is_integer(True), False)
        self.assertIs(is_integer(False), False)

    def test_other_kinds_are_none(self):
        for value in no_integers():
            self.assertIs(is_integer(value), False, value)


class TestCounts(unittest.TestCase):
    def test_integers_from_zero_are_counts(self):
        for value in [0, 1, 2, 255, GREAT]:
            self.assertIs(is_count(value), True)

    def test_negative_integers_are_none(self):
        for value in [-1, -2, -255, -GREAT]:
            self.assertIs(is_count(value), False)

    def test_truths_are_none(self):
        self.assertIs(is_count(True), False)
        self.assertIs(is_count(False), False)

    def test_other_kinds_are_none(self):
        for value in no_integers():
            self.assertIs(is_count(value), False, value)


class TestNames(unittest.TestCase):
    def test_one_to_eight_letters_and_digits_are_names(self):
        for value in RIGHT_NAMES:
            self.assertIs(is_name(value), True, value)

    def test_each_letter_may_stand_first_and_each_letter_and_digit_behind_it(self):
        letters = "abcdefghijklmnopqrstuvwxyz"
        for letter in letters:
            self.assertIs(is_name(letter), True)
        for sign in letters + "0123456789":
            self.assertIs(is_name("a" + sign), True)
            self.assertIs(is_name("abcdefg" + sign), True)

    def test_all_other_signs_are_wrong_at_each_place(self):
        right = "abcdefghijklmnopqrstuvwxyz0123456789"
        for sign in [chr(code) for code in range(256) if chr(code) not in right]:
            for value in [sign, "a" + sign, "a" + sign + "b", "abcdefg" + sign]:
                self.assertIs(is_name(value), False, value)

    def test_no_digit_stands_first(self):
        for digit in "0123456789":
            self.assertIs(is_name(digit), False)
            self.assertIs(is_name(digit + "a"), False)

    def test_lengths(self):
        for length in range(1, 9):
            self.assertIs(is_name("a" * length), True)
        for length in [0, 9, 10, 5000]:
            self.assertIs(is_name("a" * length), False)

    def test_strings_that_are_nearly_names(self):
        for value in WRONG_NAMES:
            self.assertIs(is_name(value), False, value)

    def test_other_kinds_are_none(self):
        for value in no_strings():
            self.assertIs(is_name(value), False, value)


class TestArguments(unittest.TestCase):
    def test_by_name(self):
        self.assertIs(is_integer(value=3), True)
        self.assertIs(is_count(value=-3), False)
        self.assertIs(is_name(value="a3"), True)
