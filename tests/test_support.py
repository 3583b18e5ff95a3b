"""Tests of what other tests lean on: the slow judge of the texts of rows."""

import unittest

from tests.support import can_begin_row, chance_row, dice_of, first_wrong_word, row_of_words


class TestSlowJudge(unittest.TestCase):

    def test_each_beginning_of_a_right_text_can_begin_one(self):
        dice = dice_of(1)
        for _ in range(300):
            words = str(chance_row(dice)).split(" ")
            for many in range(1, len(words) + 1):
                self.assertTrue(can_begin_row(words[:many]), words[:many])

    def test_wrong_words_by_hand(self):
        for text, wrong in [
            ("0 : - > 0", None), ("24 : - > 0", 0), ("0 hear 6 : - > 0", 2), ("0 : take 0 , take 1 > 0", 5),
            ("0 : put 0 > 0", 2), ("0 empty 0 1 2 full", 5), ("0 empty 1 0", 3), ("0 : move 1 1", 4),
            ("0 : take 0 , out 0 > 0", 5), ("0 :", 2), ("", 0), ("0  : - > 0", 1), ("0 : - > 0 ", 5),
        ]:
            got = first_wrong_word(text, can_begin_row, lambda words: row_of_words(words) is not None)
            self.assertEqual(got, wrong, text)
