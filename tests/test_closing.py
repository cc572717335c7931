"""Points 10, 11 and 12: the wide shape, the told sides of a table, and the shape of sides."""

import copy
import unittest

from eightsides.closing import closed, held, told_sides, wide
from tests.counting import (
    Dice, box, boxed_points, boxed_sides, counted_shape, grown_shape, kept, sides_round, thrown_sides,
)
from tests.samples import COUNTS, HUGE, flips, forms, points

# Twice the first name is 1: x + y = 1 and x = y.
ONLY_HALFWAY = [(0, 2, 1), (1, 3, -1), (0, 3, 0), (1, 2, 0)]


class TestWide(unittest.TestCase):
    def test_one_name(self):
        self.assertEqual(wide(1), [[None, 0], [0, None]])

    def test_two_names(self):
        self.assertEqual(wide(2), [
            [None, 0, None, None],
            [0, None, None, None],
            [None, None, None, 0],
            [None, None, 0, None],
        ])

    def test_one_to_six_names(self):
        for count in COUNTS:
            told = wide(count)
            self.assertEqual([len(row) for row in told], [2 * count] * (2 * count))
            for f, flip in enumerate(flips(count)):
                for g in forms(count):
                    self.assertEqual(told[f][g], 0 if g == flip else None)
                    self.assertIn(type(told[f][g]), (int, type(None)))


class TestToldSides(unittest.TestCase):
    def test_none_of_the_wide_shape(self):
        for count in COUNTS:
            self.assertEqual(told_sides(wide(count)), [])

    def test_in_the_order_of_f_then_of_g(self):
        table = [[8, 0, 5, 4], [0, 2, 3, 1], [5, 3, 6, 0], [4, 1, 0, -2]]
        self.assertEqual(told_sides(table), [
            (0, 0, 8), (0, 2, 5), (0, 3, 4), (1, 1, 2), (1, 2, 3), (1, 3, 1), (2, 2, 6), (3, 3, -2),
        ])

    def test_without_those_that_are_none(self):
        table = [[None, 0, 0, None], [0, -4, None, None], [0, None, None, 0], [None, None, 0, HUGE]]
        self.assertEqual(told_sides(table), [(0, 2, 0), (1, 1, -4), (3, 3, HUGE)])

    def test_a_form_and_its_flip_are_left_out_whatever_stands_there(self):
        self.assertEqual(told_sides([[1, -7], [-7, None]]), [(0, 0, 1)])
        self.assertEqual(told_sides([[None, None], [None, 3]]), [(1, 1, 3)])

    def test_tables_that_are_no_shapes(self):
        self.assertEqual(told_sides([[-3, 0], [0, 1]]), [(0, 0, -3), (1, 1, 1)])

    def test_all_pairs_of_six_names(self):
        count = 6
        table = [[10 * min(f, g) + max(f, g) for g in forms(count)] for f in forms(count)]
        flip = flips(count)
        wanted = [(f, g, 10 * f + g) for f in forms(count) for g in range(f, 2 * count) if g != flip[f]]
        self.assertEqual(told_sides(table), wanted)
        self.assertEqual(len(wanted), 72)

    def test_the_table_stays(self):
        table = closed(3, [(0, 2, 5), (3, 3, 2), (4, 1, -1)])
        before = copy.deepcopy(table)
        told_sides(table).clear()
        self.assertEqual(table, before)

    def test_they_make_the_shape_again(self):
        dice = Dice(11)
        for count in COUNTS:
            for point in points(count)[:8]:
                shape = closed(count, sides_round(dice, point, 3 * count, 5))
                self.assertEqual(closed(count, told_sides(shape)), shape)


class TestClosedAsTold(unittest.TestCase):
    def test_no_sides(self):
        for count in COUNTS:
            self.assertEqual(closed(count, []), wide(count))

    def test_one_side(self):
        self.assertEqual(closed(1, [(0, 0, 6)]), [[6, 0], [0, None]])
        self.assertEqual(closed(2, [(3, 0, -5)]), [
            [None, 0, None, -5],
            [0, None, None, None],
            [None, None, None, 0],
            [-5, None, 0, None],
        ])

    def test_an_odd_number_of_a_form_twice(self):
        self.assertEqual(closed(1, [(0, 0, 7), (1, 1, -3)]), [[6, 0], [0, -4]])
        self.assertEqual(closed(1, [(0, 0, HUGE)]), [[HUGE - 1, 0], [0, None]])

    def test_linked_sides(self):
        shape = closed(3, [(0, 2, 5), (3, 4, -7)])
        self.assertEqual((shape[0][4], shape[4][0]), (-2, -2))

    def test_linked_to_a_form_twice_and_halved(self):
        # x + y <= 3 and x - y <= 0: twice x is not above 3, so not above 2.
        shape = closed(2, [(0, 2, 3), (0, 3, 0)])
        self.assertEqual(shape[0], [2, 0, 3, 0])

    def test_two_forms_bound_their_sum(self):
        shape = closed(2, [(0, 0, 7), (3, 3, -9)])
        self.assertEqual((shape[0][3], shape[3][0]), (-2, -2))

    def test_halving_bounds_a_sum_further_than_linking(self):
        # x - y <= 0, x + y <= 1 and z <= 0: x + z is not above 0, though links come to 2 * (x + z) <= 1.
        shape = closed(3, [(0, 3, 0), (0, 2, 1), (4, 4, 0)])
        self.assertEqual((shape[0][0], shape[0][4]), (0, 0))

    def test_the_whole_plane_of_eight_sides(self):
        shape = closed(2, [(0, 0, 6), (1, 1, 2), (2, 2, 8), (3, 3, 0), (0, 2, 5), (1, 3, 0), (0, 3, 2), (1, 2, 4)])
        self.assertEqual(shape, [[6, 0, 5, 2], [0, 2, 4, 0], [5, 4, 8, 0], [2, 0, 0, 0]])

    def test_one_point(self):
        for count in COUNTS:
            for point in points(count):
                sides = []
                for k, number in enumerate(point):
                    sides.extend([(2 * k, 2 * k, 2 * number), (2 * k + 1, 2 * k + 1, -2 * number)])
                self.assertEqual(closed(count, sides), counted_shape([point]))

    def test_a_form_and_its_flip(self):
        for count in COUNTS:
            for f, flip in enumerate(flips(count)):
                for c in (0, 1, HUGE):
                    self.assertEqual(closed(count, [(f, flip, c)]), wide(count))
                for c in (-1, -HUGE):
                    self.assertIsNone(closed(count, [(f, flip, c)]))

    def test_no_point(self):
        self.assertIsNone(closed(1, [(0, 0, 4), (1, 1, -6)]))
        self.assertIsNone(closed(2, [(0, 2, -1), (1, 3, 0)]))
        self.assertIsNone(closed(3, [(0, 3, -1), (2, 5, -1), (4, 1, 1)]))
        self.assertIsNotNone(closed(3, [(0, 3, -1), (2, 5, -1), (4, 1, 2)]))

    def test_only_points_halfway_between_whole_ones(self):
        self.assertIsNone(closed(1, [(0, 0, 5), (1, 1, -5)]))
        self.assertIsNone(closed(2, ONLY_HALFWAY))
        self.assertIsNotNone(closed(2, ONLY_HALFWAY[1:]))
        self.assertIsNone(closed(2, [(0, 2, HUGE), (1, 3, -HUGE), (0, 3, 0), (1, 2, 0)]))


class TestClosedCounted(unittest.TestCase):
    def test_small_boxes(self):
        dice = Dice(1)
        empty = 0
        for count, turns in ((1, 60), (2, 150), (3, 120), (4, 25), (5, 15), (6, 10)):
            for turn in range(turns):
                sides = boxed_sides(dice, count)
                wanted = counted_shape(boxed_points(count, sides))
                self.assertEqual(closed(count, sides), wanted, sides)
                empty += wanted is None
        self.assertTrue(30 < empty < 300, empty)

    def test_no_greatest_just_where_the_sums_grow_with_the_box(self):
        dice = Dice(2)
        near, far = box(2, 14), box(2, 17)
        for turn in range(60):
            sides = thrown_sides(dice, 2, dice.below(6), -3, 3)
            wanted = grown_shape(kept(near, sides), kept(far, sides))
            self.assertEqual(closed(2, sides), wanted, sides)

    def test_forms_of_the_table(self):
        dice = Dice(3)
        for count in COUNTS:
            for point in points(count)[:8]:
                shape = closed(count, sides_round(dice, point, 4 * count, 9))
                self.assertEqual(len(shape), 2 * count)
                for f, flip in enumerate(flips(count)):
                    self.assertEqual(len(shape[f]), 2 * count)
                    self.assertEqual(shape[f][flip], 0)
                    self.assertEqual((shape[f][f] or 0) % 2, 0)
                    for g in forms(count):
                        self.assertEqual(shape[f][g], shape[g][f])
                        self.assertIn(type(shape[f][g]), (int, type(None)))


class TestClosedOtherwise(unittest.TestCase):
    """The same points are kept, so the table is the same."""

    def lists(self):
        dice = Dice(4)
        for count in COUNTS:
            for turn, point in enumerate(points(count)[:10]):
                many = (0, 1, count, 3 * count, 40)[turn % 5]
                yield dice, count, sides_round(dice, point, many, (0, 3, 8)[turn % 3])
            for turn in range(4):
                yield dice, count, thrown_sides(dice, count, 3 * count, -2, 5)
        yield dice, 2, ONLY_HALFWAY

    def test_whatever_the_order(self):
        for dice, count, sides in self.lists():
            shape = closed(count, sides)
            self.assertEqual(closed(count, list(reversed(sides))), shape)
            self.assertEqual(closed(count, dice.shuffled(sides)), shape)

    def test_with_sides_twice(self):
        for dice, count, sides in self.lists():
            self.assertEqual(closed(count, dice.shuffled(sides + sides)), closed(count, sides))

    def test_with_the_forms_the_other_way_round(self):
        for dice, count, sides in self.lists():
            shape = closed(count, sides)
            self.assertEqual(closed(count, [(g, f, c) for f, g, c in sides]), shape)
            half_turned = [(g, f, c) if place % 2 else (f, g, c) for place, (f, g, c) in enumerate(sides)]
            self.assertEqual(closed(count, half_turned), shape)

    def test_with_an_odd_number_of_a_form_twice(self):
        for dice, count, sides in self.lists():
            odd = [(f, g, c + 1) if f == g and c % 2 == 0 else (f, g, c) for f, g, c in sides]
            self.assertEqual(closed(count, odd), closed(count, sides))

    def test_with_sides_more_that_follow(self):
        for dice, count, sides in self.lists():
            shape = closed(count, sides)
            weaker = [(f, g, c + dice.below(4)) for f, g, c in sides]
            self.assertEqual(closed(count, dice.shuffled(sides + weaker)), shape)
            if shape is not None:
                follow = [(f, g, c + dice.below(2)) for f, g, c in told_sides(shape)]
                follow.append((1, 0, dice.below(3)))
                self.assertEqual(closed(count, dice.shuffled(sides + follow)), shape)

    def test_with_the_stronger_of_two_sides_anywhere(self):
        self.assertEqual(closed(1, [(0, 0, 2), (0, 0, 8)]), [[2, 0], [0, None]])
        self.assertEqual(closed(1, [(0, 0, 8), (0, 0, 2)]), [[2, 0], [0, None]])

    def test_equal_points_make_equal_tables(self):
        # Of the four corners of a square, whichever sides cut it out.
        square = [(0, 0, 2), (1, 1, 0), (2, 2, 2), (3, 3, 0)]
        around = [(0, 2, 2), (1, 3, 0), (0, 3, 1), (1, 2, 1)]
        wanted = counted_shape([(0, 0), (0, 1), (1, 0), (1, 1)])
        self.assertEqual(closed(2, square), wanted)
        self.assertEqual(closed(2, around + square), wanted)
        self.assertEqual(closed(2, around), wanted)

    def test_other_points_make_other_tables(self):
        dice = Dice(5)
        seen = {}
        for turn in range(200):
            sides = boxed_sides(dice, 2)
            inside = tuple(boxed_points(2, sides))
            shape = closed(2, sides)
            self.assertEqual(seen.setdefault(inside, shape), shape)
        self.assertGreater(len(seen), 50)
        tables = list(seen.values())
        for place, table in enumerate(tables):
            self.assertNotIn(table, tables[place + 1:])


class TestManySides(unittest.TestCase):
    def test_a_hundred_and_twenty(self):
        dice = Dice(6)
        for count in COUNTS:
            for point in points(count)[:8]:
                sides = sides_round(dice, point, 120, 0)
                self.assertEqual(closed(count, sides[:60] + sides[60:]), closed(count, list(reversed(sides))))
                shape = closed(count, sides)
                self.assertIsNotNone(shape)
                f, g, c = sides[dice.below(120)]
                self.assertEqual(shape[f][g], c)
                flip = flips(count)
                sides[dice.below(120)] = (flip[f], flip[g], -c - 1)
                self.assertIsNone(closed(count, sides + [(f, g, c)]))


class TestHeld(unittest.TestCase):
    def test_as_told(self):
        self.assertEqual(held(wide(1), (0, 0, 7)), [[6, 0], [0, None]])
        self.assertEqual(held([[6, 0], [0, None]], (1, 1, -5)), [[6, 0], [0, -6]])
        self.assertIsNone(held([[6, 0], [0, None]], (1, 1, -7)))
        self.assertEqual(held(closed(2, [(0, 2, 5)]), (3, 3, -4)), closed(2, [(0, 2, 5), (3, 3, -4)]))

    def test_none_is_held_as_none(self):
        for side in ((0, 0, HUGE), (1, 1, 0), (0, 1, 0), (0, 1, -1), (2, 0, -5)):
            self.assertIsNone(held(None, side))

    def test_a_side_that_all_points_keep_changes_nothing(self):
        dice = Dice(7)
        for count in COUNTS:
            for point in points(count)[:4]:
                shape = closed(count, sides_round(dice, point, 3 * count, 5))
                for f, g, c in told_sides(shape):
                    self.assertEqual(held(shape, (f, g, c)), shape)
                    self.assertEqual(held(shape, (g, f, c + 1)), shape)
                self.assertEqual(held(shape, (0, 1, 0)), shape)
                self.assertIsNone(held(shape, (1, 0, -1)))

    def test_the_shape_of_all_sides_together(self):
        dice = Dice(8)
        empty = 0
        for count in COUNTS:
            for turn in range(25):
                sides = thrown_sides(dice, count, 1 + dice.below(4 * count), -4, 6)
                shape = wide(count)
                for place, side in enumerate(sides):
                    shape = held(shape, side)
                    self.assertEqual(shape, closed(count, sides[:place + 1]))
                empty += shape is None
        self.assertTrue(20 < empty < 140, empty)

    def test_only_points_halfway_are_none(self):
        for last in range(4):
            sides = ONLY_HALFWAY[:last] + ONLY_HALFWAY[last + 1:]
            shape = closed(2, sides)
            self.assertIsNotNone(shape)
            self.assertIsNone(held(shape, ONLY_HALFWAY[last]))

    def test_counted(self):
        dice = Dice(9)
        for count in (1, 2, 3):
            for turn in range(40):
                sides = boxed_sides(dice, count)
                side = thrown_sides(dice, count, 1, -4, 4)[0]
                self.assertEqual(held(closed(count, sides), side), counted_shape(boxed_points(count, sides + [side])))

    def test_three_hundred_figures(self):
        shape = closed(2, [(0, 0, 2 * HUGE), (1, 1, 2 * HUGE), (0, 3, HUGE)])
        self.assertEqual(held(shape, (2, 2, -2 * HUGE))[0], [0, 0, -HUGE, HUGE])
        self.assertIsNone(held(shape, (2, 2, -4 * HUGE - 2)))
