"""Point 4: forms, their flips, their worths and totals."""

import unittest

from eightsides.forms import flipped, total, worth
from tests.samples import COUNTS, HUGE, flips, forms, points, worths


class TestFlipped(unittest.TestCase):
    def test_flip_is_the_other_form_of_the_name(self):
        told = [flipped(f) for f in range(12)]
        self.assertEqual(told, [1, 0, 3, 2, 5, 4, 7, 6, 9, 8, 11, 10])

    def test_flip_of_the_flip_is_the_form(self):
        for f in range(12):
            self.assertEqual(flipped(flipped(f)), f)

    def test_flip_is_a_whole_number(self):
        for f in range(12):
            self.assertIs(type(flipped(f)), int)


class TestWorth(unittest.TestCase):
    def test_both_forms_of_each_name(self):
        point = (3, -4, 0, 11, -12, 6)
        told = [worth(point, f) for f in range(12)]
        self.assertEqual(told, [3, -3, -4, 4, 0, 0, 11, -11, -12, 12, 6, -6])

    def test_zero_stays_zero(self):
        for f in (0, 1):
            self.assertEqual(worth((0,), f), 0)
            self.assertIs(type(worth((0,), f)), int)

    def test_all_forms_at_points_of_one_to_six_names(self):
        for count in COUNTS:
            for point in points(count):
                self.assertEqual([worth(point, f) for f in forms(count)], worths(point))

    def test_flip_has_the_worth_with_its_sign_turned(self):
        for count in COUNTS:
            for point in points(count):
                for f in forms(count):
                    self.assertEqual(worth(point, flipped(f)), -worth(point, f))

    def test_three_hundred_figures(self):
        self.assertEqual(worth((1, HUGE), 2), HUGE)
        self.assertEqual(worth((1, HUGE), 3), -HUGE)
        self.assertEqual(worth((-HUGE,), 1), HUGE)


class TestTotal(unittest.TestCase):
    def test_no_forms(self):
        for count in COUNTS:
            for point in points(count):
                self.assertEqual(total(point, []), 0)
                self.assertIs(type(total(point, [])), int)

    def test_one_form(self):
        self.assertEqual(total((3, -4), [2]), -4)
        self.assertEqual(total((3, -4), [3]), 4)

    def test_the_same_form_several_times(self):
        self.assertEqual(total((3, -4), [3, 3, 3]), 12)
        self.assertEqual(total((3, -4), [1, 2, 1, 2]), -14)

    def test_a_form_and_its_flip(self):
        for count in COUNTS:
            for point in points(count):
                for f, flip in enumerate(flips(count)):
                    self.assertEqual(total(point, [f, flip]), 0)
                    self.assertEqual(total(point, [f, flip, f]), worths(point)[f])

    def test_many_forms(self):
        point = (3, -4, 0, 11, -12, 6)
        self.assertEqual(total(point, [0, 2, 4, 6, 8, 10]), 4)
        self.assertEqual(total(point, [1, 3, 5, 7, 9, 11]), -4)
        self.assertEqual(total(point, list(range(12)) * 20), 0)
        self.assertEqual(total(point, [0, 3, 9] * 100), 1900)

    def test_three_hundred_figures(self):
        self.assertEqual(total((HUGE, -HUGE), [0, 3, 3]), 3 * HUGE)
