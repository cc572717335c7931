"""Point 18: the join of two shapes."""

import unittest

from eightsides.closing import closed, wide
from eightsides.joins import join
from tests.counting import Dice, SIZES, box, counted_shape, grown_shape, is_in, kept, sum_of, thrown_sides
from tests.samples import COUNTS, HUGE, forms, points
from tests.shapes import boxed_shapes, shapes_round_points

TURNS = ((1, 16), (2, 24), (3, 20), (4, 8), (5, 6), (6, 6))


class TestJoin(unittest.TestCase):
    def test_as_told(self):
        one, other = closed(1, [(0, 0, 6), (1, 1, 0)]), closed(1, [(0, 0, 18), (1, 1, -16)])
        self.assertEqual(join(one, other), [[18, 0], [0, 0]])
        one, other = counted_shape([(0, 0)]), counted_shape([(2, 1)])
        self.assertEqual(join(one, other), [[4, 0, 3, 1], [0, 0, 0, 0], [3, 0, 2, 0], [1, 0, 0, 0]])

    def test_with_the_empty_shape_it_is_the_other_one(self):
        self.assertIsNone(join(None, None))
        for count, point, sides, shape in shapes_round_points(Dice(111), 6):
            self.assertEqual(join(shape, None), shape)
            self.assertEqual(join(None, shape), shape)

    def test_counted_in_small_boxes(self):
        shapes = boxed_shapes(Dice(112), TURNS)
        for count, inside, one in shapes:
            for other_count, other_inside, other in shapes:
                if count == other_count:
                    self.assertEqual(join(one, other), counted_shape(inside + other_inside))

    def test_of_two_points(self):
        for count in COUNTS:
            for point in points(count):
                for other in points(count):
                    both = join(counted_shape([point]), counted_shape([other]))
                    self.assertEqual(both, counted_shape([point, other]))

    def test_shapes_far_from_each_other(self):
        near = box(2, 1)
        for far in (100, HUGE):
            for x, y in ((far, 0), (-far, far), (0, -far)):
                moved = [(one + x, other + y) for one, other in near]
                both = join(counted_shape(near), counted_shape(moved))
                self.assertEqual(both, counted_shape(near + moved))

    def test_no_bound_just_where_one_of_them_has_none(self):
        up, down, both_ends = closed(1, [(1, 1, -8)]), closed(1, [(0, 0, 4)]), closed(1, [(0, 0, 6), (1, 1, 2)])
        self.assertEqual(join(up, down), wide(1))
        self.assertEqual(join(up, both_ends), [[None, 0], [0, 2]])
        self.assertEqual(join(down, both_ends), [[6, 0], [0, None]])
        self.assertEqual(join(both_ends, both_ends), both_ends)

    def test_with_the_wide_shape_it_is_the_wide_one(self):
        for count, point, sides, shape in shapes_round_points(Dice(113), 4):
            self.assertEqual(join(shape, wide(count)), wide(count))
            self.assertEqual(join(wide(count), shape), wide(count))

    def test_without_bounds_counted_in_growing_boxes(self):
        dice = Dice(114)
        near, far = box(2, 14), box(2, 17)
        for turn in range(40):
            one, other = thrown_sides(dice, 2, dice.below(6), -3, 3), thrown_sides(dice, 2, dice.below(6), -3, 3)
            inside = kept(near, one) + kept(near, other)
            wider = kept(far, one) + kept(far, other)
            self.assertEqual(join(closed(2, one), closed(2, other)), grown_shape(inside, wider), (one, other))

    def test_whichever_comes_first_and_with_itself(self):
        shapes = shapes_round_points(Dice(115), 8)
        for count, point, sides, one in shapes:
            self.assertEqual(join(one, one), one)
            for other_count, other_point, other_sides, other in shapes:
                if count == other_count:
                    self.assertEqual(join(one, other), join(other, one))

    def test_all_points_of_both_and_no_greater_sum_than_theirs(self):
        shapes = shapes_round_points(Dice(116), 8)
        for count, point, sides, one in shapes:
            for other_count, other_point, other_sides, other in shapes:
                if count == other_count:
                    both = join(one, other)
                    self.assertTrue(is_in(both, point) and is_in(both, other_point))
                    for f in forms(count):
                        for g in forms(count):
                            most = None
                            if one[f][g] is not None and other[f][g] is not None:
                                most = max(one[f][g], other[f][g])
                                self.assertGreaterEqual(most, sum_of(point, [f, g]))
                            self.assertEqual(both[f][g], most)

    def test_a_join_is_the_shape_of_the_points_that_lie_in_it(self):
        shapes = boxed_shapes(Dice(117), ((2, 12), (3, 10)))
        for count, inside, one in shapes:
            for other_count, other_inside, other in shapes:
                if count == other_count:
                    both = join(one, other)
                    lying = [point for point in box(count, SIZES[count]) if is_in(both, point)]
                    self.assertEqual(counted_shape(lying), both)


if __name__ == "__main__":
    unittest.main()
