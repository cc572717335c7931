"""Point 17, and point 3 where it speaks of shapes within each other: points apart."""

import copy
import unittest

from eightsides.closing import closed, held, wide
from eightsides.compare import apart, within
from tests.counting import Dice, counted_shape, is_in, sides_round
from tests.samples import COUNTS, HUGE, forms, points
from tests.shapes import boxed_shapes, open_shapes

TURNS = ((1, 16), (2, 24), (3, 20), (4, 8), (5, 6), (6, 6))


def pairs(shapes):
    """All pairs of shapes of one count, each shape with itself among them."""
    return [(one, other) for one in shapes for other in shapes if one[0] == other[0]]


class TestCompare(unittest.TestCase):
    def check_apart(self, one, other):
        told = apart(one, other)
        self.assertIs(type(told), tuple, (one, other))
        self.assertEqual([type(number) for number in told], [int] * (len(one) // 2))
        self.assertTrue(is_in(one, told), (one, other, told))
        self.assertFalse(is_in(other, told), (one, other, told))
        self.assertIs(within(one, other), False)
        return told

    def check_within(self, one, other):
        self.assertIsNone(apart(one, other), (one, other))
        self.assertIs(within(one, other), True)

    def test_as_told(self):
        small, great = closed(1, [(0, 0, 6), (1, 1, 0)]), closed(1, [(0, 0, 8), (1, 1, 2)])
        self.check_within(small, great)
        self.assertIn(self.check_apart(great, small), ((4,), (-1,)))
        ray = closed(1, [(1, 1, 0)])
        self.check_within(small, ray)
        self.assertGreater(self.check_apart(ray, small)[0], 3)
        self.assertEqual(self.check_apart(great, ray), (-1,))
        self.assertGreater(self.check_apart(ray, great)[0], 4)

    def test_the_empty_shape_lies_within_each_shape(self):
        self.check_within(None, None)
        for count, sides, shape in open_shapes(Dice(101), 4):
            self.check_within(None, shape)

    def test_no_other_shape_lies_within_the_empty_one(self):
        for count, sides, shape in open_shapes(Dice(102), 4):
            self.check_apart(shape, None)

    def test_each_shape_lies_within_itself_and_the_wide_one(self):
        for count, sides, shape in open_shapes(Dice(103), 6):
            self.check_within(shape, shape)
            self.check_within(shape, copy.deepcopy(shape))
            self.check_within(shape, wide(count))
            if shape != wide(count):
                self.check_apart(wide(count), shape)

    def test_counted_in_small_boxes(self):
        for (count, inside, one), (_, other_inside, other) in pairs(boxed_shapes(Dice(104), TURNS)):
            beyond = set(inside) - set(other_inside)
            if beyond:
                self.assertIn(self.check_apart(one, other), beyond)
            else:
                self.check_within(one, other)

    def test_some_lie_within_others_and_some_do_not(self):
        both = [within(one[2], other[2]) for one, other in pairs(boxed_shapes(Dice(105), ((2, 30),)))]
        self.assertTrue(100 < sum(both) < 800, sum(both))

    def test_each_within_the_other_just_where_the_tables_are_equal(self):
        shapes = boxed_shapes(Dice(106), ((1, 30), (2, 20), (3, 6)))
        equal = 0
        for (count, inside, one), (_, other_inside, other) in pairs(shapes):
            self.assertEqual(within(one, other) and within(other, one), one == other)
            self.assertEqual(one == other, inside == other_inside)
            equal += one == other
        self.assertGreater(equal, 60)

    def test_each_side_alone_sets_a_point_apart(self):
        for count, sides, shape in open_shapes(Dice(107), 3):
            for f in forms(count):
                for g in range(f, 2 * count):
                    entry = shape[f][g]
                    fewer = held(shape, (f, g, HUGE ** 2 if entry is None else entry - 1))
                    self.check_within(fewer, shape)
                    self.check_apart(shape, fewer)

    def test_by_one_more_of_three_hundred_figures(self):
        for count in COUNTS:
            for point in points(count)[::4]:
                one = counted_shape([point])
                for k in range(count):
                    for step in (1, -1, HUGE):
                        moved = point[:k] + (point[k] + step,) + point[k + 1:]
                        self.assertEqual(self.check_apart(one, counted_shape([moved])), point)
                        both = counted_shape([point, moved])
                        self.check_within(one, both)
                        self.check_apart(both, one)

    def test_shapes_of_fewer_sides_hold_those_of_more(self):
        dice = Dice(108)
        for count in COUNTS:
            for point in points(count)[:6]:
                sides = sides_round(dice, point, 3 * count, 5)
                for many in range(3 * count):
                    self.check_within(closed(count, sides), closed(count, sides[:many]))

    def test_a_shape_without_a_bound_and_one_with_a_far_one(self):
        for far in (1, 100, HUGE, HUGE ** 2):
            for f in range(6):
                for g in (f, (f + 2) % 6, (f + 3) % 6):
                    if g // 2 == f // 2 and g != f:
                        continue
                    bounded = closed(3, [(f, g, 2 * far)])
                    self.check_within(bounded, wide(3))
                    self.check_apart(wide(3), bounded)


if __name__ == "__main__":
    unittest.main()
