"""Tests of markedpair.checks."""

import unittest

from markedpair import checks
from tests.support import ANY

INTEGERS = [*range(-30, 130), 10 ** 39, -(10 ** 39), 2 ** 64]


class TestChecks(unittest.TestCase):

    def assert_tells(self, call, value, wanted):
        self.assertIs(call(value), wanted, value)
        self.assertIs(call(value=value), wanted, value)

    def test_is_integer(self):
        for value in ANY + INTEGERS:
            self.assert_tells(checks.is_integer, value, type(value) is int)

    def test_is_within(self):
        for least, most in [(0, 0), (0, 5), (-3, 2), (1, 3), (5, 4), (0, 10 ** 39), (-(10 ** 39), 0)]:
            for value in ANY + INTEGERS:
                wanted = type(value) is int and value >= least and value <= most
                self.assertIs(checks.is_within(value, least, most), wanted, (value, least, most))
                self.assertIs(checks.is_within(most=most, least=least, value=value), wanted)

    def test_is_within_bounds_that_are_no_integers(self):
        for bound in ANY:
            if type(bound) is not int:
                self.assertIs(checks.is_within(1, bound, 5), False)
                self.assertIs(checks.is_within(1, 0, bound), False)

    def test_states_boxes_and_numbers(self):
        for call, most in [(checks.is_state, 23), (checks.is_box, 2), (checks.is_number, 5)]:
            for value in ANY + INTEGERS:
                self.assert_tells(call, value, type(value) is int and 0 <= value <= most)

    def test_is_name(self):
        right = ["a", "z", "az", "abcdefgh", "zzzzzzzz", "link"]
        wrong = ["", "abcdefghi", "A", "aB", "a1", "a_", "a b", " a", "a ", "a\n", "\n", "`", "{", "1", "-"]
        for value in right:
            self.assert_tells(checks.is_name, value, True)
        for value in wrong:
            self.assert_tells(checks.is_name, value, False)
        letters = "abcdefghijklmnopqrstuvwxyz"
        for value in ANY:
            wanted = isinstance(value, str) and 1 <= len(value) <= 8 and not value.strip(letters)
            self.assert_tells(checks.is_name, value, wanted)
