"""Points 19, 20 and 21: shapes asked and put at a name, points filled at one, and amounts."""

import unittest

from eightsides.changes import amount_at, asked, filled, put
from eightsides.closing import closed, wide
from tests.counting import Dice, box, counted_shape, grown_shape, is_in, is_kept, kept, sides_round, thrown_sides
from tests.doing import all_made, amounts, asks, changed, counted_amount
from tests.samples import COUNTS, HUGE, NUMBERS, forms, points
from tests.shapes import boxed_shapes, shapes_round_points

TURNS = ((1, 12), (2, 16), (3, 12), (4, 3), (5, 2), (6, 2))


class TestAsked(unittest.TestCase):
    def test_as_told(self):
        shape = closed(2, [(0, 0, 4), (1, 1, 0), (0, 3, 0), (1, 2, 3)])
        self.assertEqual(asked(shape, 1, -1, 9), closed(2, [(0, 0, 4), (1, 1, 0), (2, 2, 18), (3, 3, 2)]))
        self.assertEqual(asked(shape, 1, None, None), closed(2, [(0, 0, 4), (1, 1, 0)]))
        self.assertEqual(asked(shape, 0, 7, 7), closed(2, [(0, 0, 14), (1, 1, -14), (2, 2, 10), (3, 3, 0)]))

    def test_one_name(self):
        for shape in (wide(1), closed(1, [(0, 0, 6)]), closed(1, [(1, 1, -HUGE)]), counted_shape([(5,)])):
            self.assertEqual(asked(shape, 0, -3, 8), [[16, 0], [0, 6]])
            self.assertEqual(asked(shape, 0, 8, 8), [[16, 0], [0, -16]])
            self.assertEqual(asked(shape, 0, -3, None), [[None, 0], [0, 6]])
            self.assertEqual(asked(shape, 0, None, HUGE), [[2 * HUGE, 0], [0, None]])
            self.assertEqual(asked(shape, 0, None, None), wide(1))

    def test_of_the_empty_shape_the_empty_one(self):
        for k in range(6):
            for low, high in ((0, 0), (-5, HUGE), (None, 4), (4, None), (None, None)):
                self.assertIsNone(asked(None, k, low, high))

    def test_counted_in_small_boxes(self):
        dice = Dice(121)
        for count, inside, shape in boxed_shapes(dice, TURNS):
            for k in range(count):
                for spec in asks(dice, k, -3, 3):
                    wanted = grown_shape(all_made(spec, inside, 9), all_made(spec, inside, 10))
                    self.assertEqual(asked(shape, *spec[1:]), wanted, (shape, spec))

    def test_other_names_without_bounds_counted_in_growing_boxes(self):
        dice = Dice(122)
        near, far = box(2, 14), box(2, 17)
        for turn in range(30):
            sides = thrown_sides(dice, 2, dice.below(6), -3, 3)
            for spec in asks(dice, turn % 2, -4, 4):
                wanted = grown_shape(all_made(spec, kept(near, sides), 14), all_made(spec, kept(far, sides), 17))
                self.assertEqual(asked(closed(2, sides), *spec[1:]), wanted, (sides, spec))

    def test_of_one_point(self):
        for count in COUNTS:
            for point in points(count):
                for k in range(count):
                    for number in (point[k], 0, -8, HUGE):
                        wanted = counted_shape([changed(point, k, number)])
                        self.assertEqual(asked(counted_shape([point]), k, number, number), wanted)
                    ends = [changed(point, k, -HUGE), changed(point, k, HUGE)]
                    self.assertEqual(asked(counted_shape([point]), k, -HUGE, HUGE), counted_shape(ends))

    def test_other_names_keep_what_is_known_of_them(self):
        for count, point, sides, shape in shapes_round_points(Dice(123), 5):
            for k in range(count):
                told = asked(shape, k, None, 12)
                for f in forms(count):
                    for g in forms(count):
                        if k not in (f // 2, g // 2):
                            self.assertEqual(told[f][g], shape[f][g])
                        elif k == f // 2 != g // 2:
                            self.assertEqual(told[f][g], self.beside_end(shape, f, g, 12))

    def beside_end(self, shape, f, g, high):
        """The greatest of f and g together, f of a name that goes up to high and has no least number."""
        if f % 2 == 1 or shape[g][g] is None:
            return None
        return shape[g][g] // 2 + high


class TestFilled(unittest.TestCase):
    def check(self, sides, point, k, told):
        self.assertIs(type(told), int, (sides, point, k))
        self.assertTrue(is_kept(changed(point, k, told), sides), (sides, point, k, told))

    def test_as_told(self):
        shape = closed(2, [(0, 0, 4), (1, 1, 0), (2, 3, 0), (0, 3, 0), (1, 2, 0)])
        self.assertEqual(filled(shape, (1, 77), 1), 1)
        self.assertEqual(filled(shape, (-50, 2), 0), 2)
        self.assertIsNone(filled(shape, (3, 3), 1))
        self.assertIsNone(filled(shape, (2, -1), 0))

    def test_none_of_the_empty_shape(self):
        for count in COUNTS:
            for k in range(count):
                for point in points(count)[:4]:
                    self.assertIsNone(filled(None, point, k))

    def test_one_name(self):
        for number in NUMBERS:
            for own in NUMBERS:
                self.assertEqual(filled(counted_shape([(number,)]), (own,), 0), number)
                self.check([(0, 0, 2 * number)], (own,), 0, filled(closed(1, [(0, 0, 2 * number)]), (own,), 0))
                self.check([(1, 1, 2 * number)], (own,), 0, filled(closed(1, [(1, 1, 2 * number)]), (own,), 0))

    def test_counted_in_small_boxes(self):
        dice = Dice(124)
        missed = 0
        for count, inside, shape in boxed_shapes(dice, TURNS):
            for k in range(count):
                others = {changed(point, k, None) for point in inside}
                for point in box(count, 3) if count < 4 else box(count, 1)[::7]:
                    told = filled(shape, point, k)
                    if changed(point, k, None) in others:
                        self.assertIn(changed(point, k, told), inside)
                    else:
                        self.assertIsNone(told)
                        missed += 1
        self.assertGreater(missed, 200)

    def test_shapes_without_bounds(self):
        for count, point, sides, shape in shapes_round_points(Dice(125), 8):
            for k in range(count):
                for number in (point[k], 0, HUGE, -7):
                    self.check(sides, point, k, filled(shape, changed(point, k, number), k))

    def test_the_wide_shape(self):
        for count in COUNTS:
            for point in points(count)[:8]:
                for k in range(count):
                    self.check([], point, k, filled(wide(count), point, k))

    def test_another_name_too_far_off(self):
        dice = Dice(126)
        for count in COUNTS[1:]:
            for point in points(count)[:6]:
                sides = sides_round(dice, point, 3 * count, 2)
                for k in range(count):
                    other = (k + 1) % count
                    sides.append((2 * other, 2 * other, 2 * point[other]))
                    shape = closed(count, sides)
                    self.check(sides, point, k, filled(shape, point, k))
                    for more in (1, HUGE):
                        self.assertIsNone(filled(shape, changed(point, other, point[other] + more), k))

    def test_no_number_between_what_two_names_ask_for(self):
        # x is not above y, and not below z.
        shape = closed(3, [(0, 3, 0), (4, 1, 0)])
        self.assertEqual(filled(shape, (9, 4, 4), 0), 4)
        self.assertIn(filled(shape, (9, 4, 2), 0), (2, 3, 4))
        self.assertIsNone(filled(shape, (9, 4, 5), 0))
        self.assertIsNone(filled(shape, (9, -HUGE, HUGE), 0))

    def test_the_own_number_is_not_looked_at(self):
        for count, point, sides, shape in shapes_round_points(Dice(127), 3):
            for k in range(count):
                told = [filled(shape, changed(point, k, number), k) for number in NUMBERS]
                self.assertEqual(told, [told[0]] * len(NUMBERS))


class TestAmountAt(unittest.TestCase):
    def test_as_told(self):
        point = (3, -4)
        self.assertEqual(amount_at(point, (None, None, 7)), 7)
        self.assertEqual(amount_at(point, (0, None, 7)), 10)
        self.assertEqual(amount_at(point, (3, None, -7)), -3)
        self.assertEqual(amount_at(point, (0, 2, 1)), 0)
        self.assertEqual(amount_at(point, (3, 3, 1)), 9)
        self.assertEqual(amount_at(point, (2, 3, 5)), 5)
        self.assertEqual(amount_at(point, (1, 0, 0)), 0)

    def test_all_forms(self):
        for count in COUNTS:
            for point in points(count)[::3]:
                for c in (0, -6, HUGE, -HUGE):
                    self.assertEqual(amount_at(point, (None, None, c)), c)
                    for f in forms(count):
                        self.assertEqual(amount_at(point, (f, None, c)), counted_amount(point, (f, None, c)))
                        for g in forms(count):
                            told = amount_at(point, (f, g, c))
                            self.assertIs(type(told), int)
                            self.assertEqual(told, counted_amount(point, (f, g, c)))


class TestPut(unittest.TestCase):
    def test_as_told(self):
        shape = closed(2, [(0, 0, 6), (1, 1, 0), (2, 2, 2), (3, 3, 2)])
        # y becomes x + 5, and 2 * x - 1; x becomes 4 - x, and x + y.
        self.assertEqual(put(shape, 1, (0, None, 5)), closed(2, [(0, 0, 6), (1, 1, 0), (0, 3, -5), (1, 2, 5)]))
        self.assertEqual(put(shape, 1, (0, 0, -1))[2], [8, 2, 10, 0])
        self.assertEqual(put(shape, 0, (1, None, 4)), closed(2, [(0, 0, 8), (1, 1, -2), (2, 2, 2), (3, 3, 2)]))
        self.assertEqual(put(shape, 0, (0, 2, 0)), closed(2, [(2, 2, 2), (3, 3, 2), (0, 3, 3), (1, 2, 0)]))

    def test_of_the_empty_shape_the_empty_one(self):
        dice = Dice(131)
        for count in COUNTS:
            for k in range(count):
                for amount in amounts(dice, count, k, -4, 4):
                    self.assertIsNone(put(None, k, amount))

    def test_of_one_point(self):
        dice = Dice(132)
        for count in COUNTS:
            for point in points(count)[::2]:
                for k in range(count):
                    for amount in amounts(dice, count, k, -HUGE, HUGE):
                        wanted = counted_shape([changed(point, k, counted_amount(point, amount))])
                        self.assertEqual(put(counted_shape([point]), k, amount), wanted, (point, k, amount))

    def test_counted_in_small_boxes(self):
        dice = Dice(133)
        for count, inside, shape in boxed_shapes(dice, TURNS):
            for k in range(count):
                for amount in amounts(dice, count, k, -4, 4):
                    wanted = counted_shape(all_made(("put", k, amount), inside, 0))
                    self.assertEqual(put(shape, k, amount), wanted, (shape, k, amount))

    def test_without_bounds_counted_in_growing_boxes(self):
        dice = Dice(134)
        for count, near, far, turns in ((1, 30, 35, 12), (2, 14, 17, 24), (3, 7, 9, 4)):
            for turn in range(turns):
                sides = thrown_sides(dice, count, dice.below(3 * count), -1, 2)
                inside, wider = [kept(box(count, size), sides) for size in (near, far)]
                for amount in amounts(dice, count, turn % count, -4, 4):
                    spec = ("put", turn % count, amount)
                    wanted = grown_shape(all_made(spec, inside, 0), all_made(spec, wider, 0))
                    self.assertEqual(put(closed(count, sides), *spec[1:]), wanted, (sides, spec))

    def test_the_wide_shape(self):
        self.assertEqual(put(wide(2), 0, (None, None, HUGE)), closed(2, [(0, 0, 2 * HUGE), (1, 1, -2 * HUGE)]))
        self.assertEqual(put(wide(2), 0, (2, None, 4)), closed(2, [(0, 3, 4), (1, 2, -4)]))
        self.assertEqual(put(wide(2), 0, (0, None, 4)), wide(2))
        self.assertEqual(put(wide(2), 0, (2, 3, 4)), closed(2, [(0, 0, 8), (1, 1, -8)]))
        self.assertEqual(put(wide(2), 0, (2, 2, 4)), wide(2))

    def test_there_and_back(self):
        for count, point, sides, shape in shapes_round_points(Dice(135), 8):
            for k in range(count):
                own, flip, c = 2 * k, 2 * k + 1, point[k] - 8
                self.assertEqual(put(shape, k, (own, None, 0)), shape)
                self.assertEqual(put(put(shape, k, (own, None, c)), k, (own, None, -c)), shape)
                self.assertEqual(put(put(shape, k, (flip, None, c)), k, (flip, None, c)), shape)

    def test_points_that_come_of_the_shape_lie_in_it(self):
        dice = Dice(136)
        for count, point, sides, shape in shapes_round_points(dice, 4):
            for k in range(count):
                for amount in amounts(dice, count, k, -HUGE, HUGE):
                    self.assertTrue(is_in(put(shape, k, amount), changed(point, k, counted_amount(point, amount))))


if __name__ == "__main__":
    unittest.main()
