"""The refusals: what stands under what, and the row that they tell."""

import unittest

from eightsides.errors import EightError, NoBlock, NoLink, NoName, NoRow, NotStraight

WITH_ROW = (NoBlock, NotStraight, NoRow, NoName)
ALL = (NoLink,) + WITH_ROW


class TestErrors(unittest.TestCase):
    def test_eight_error_stands_right_under_value_error(self):
        self.assertEqual(EightError.__bases__, (ValueError,))

    def test_each_refusal_stands_right_under_eight_error(self):
        for refusal in ALL:
            self.assertEqual(refusal.__bases__, (EightError,), refusal)

    def test_none_stands_under_another(self):
        for one in ALL:
            for other in ALL:
                self.assertEqual(issubclass(one, other), one is other, (one, other))

    def test_at_is_set_when_made(self):
        for refusal in WITH_ROW:
            for row in (0, 1, 61):
                made = refusal(row)
                self.assertEqual(made.at, row)
                self.assertIs(type(made.at), int)

    def test_each_object_has_its_own_at(self):
        for refusal in WITH_ROW:
            first = refusal(3)
            refusal(4)
            self.assertEqual(first.at, 3)

    def test_raised_and_taken_by_the_bases(self):
        for refusal in WITH_ROW:
            for base in (refusal, EightError, ValueError):
                with self.assertRaises(base) as caught:
                    raise refusal(5)
                self.assertEqual(caught.exception.at, 5)
        for base in (NoLink, EightError, ValueError):
            with self.assertRaises(base):
                raise NoLink("words")
