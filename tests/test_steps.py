"""Points 25 and 26: the step over an entry, and tables widened by shapes."""

import unittest

from eightsides.closing import closed, wide
from eightsides.steps import step_over, widened
from tests.counting import Dice, counted_shape
from tests.samples import COUNTS, HUGE, NUMBERS, flips, forms, points
from tests.shapes import boxed_shapes, open_shapes
from tests.widening import ALL_STEPS, counted_step, counted_widened, is_above, thrown_table


def pairs(count):
    """All two forms that are no flips."""
    return [(f, g) for f in forms(count) for g in forms(count) if g != flips(count)[f]]


def near_entries(steps):
    """Entries at each step and its double, one below and one above; below all steps and above all."""
    found = [-HUGE ** 2, HUGE ** 2, None]
    for step in list(steps) + list(NUMBERS):
        found.extend([step + shift for shift in (-1, 0, 1)])
        found.extend([2 * step + shift for shift in (-2, -1, 0, 1, 2)])
    return found


class TestStepOver(unittest.TestCase):
    def test_of_two_unlike_forms(self):
        steps = [-4, 0, 3, 10]
        wanted = {-9: -4, -5: -4, -4: -4, -3: 0, -1: 0, 0: 0, 1: 3, 2: 3, 3: 3,
                  4: 10, 9: 10, 10: 10, 11: None, 20: None}
        for entry, step in wanted.items():
            for f, g in ((0, 2), (2, 0), (1, 3), (0, 3), (3, 0), (5, 10)):
                self.assertEqual(step_over(steps, f, g, entry), step, (f, g, entry))

    def test_of_a_form_twice(self):
        steps = [-4, 0, 3, 10]
        wanted = {-19: -8, -9: -8, -8: -8, -7: 0, -6: 0, -1: 0, 0: 0, 1: 6, 2: 6, 3: 6, 5: 6, 6: 6,
                  7: 20, 8: 20, 10: 20, 19: 20, 20: 20, 21: None, 22: None}
        for entry, step in wanted.items():
            for f in (0, 1, 2, 3, 11):
                self.assertEqual(step_over(steps, f, f, entry), step, (f, entry))

    def test_of_no_bound_there_is_none(self):
        for steps in ALL_STEPS:
            for f, g in pairs(3):
                self.assertIsNone(step_over(steps, f, g, None))

    def test_without_steps_there_is_none(self):
        for entry in NUMBERS + (None,):
            for f, g in pairs(3):
                self.assertIsNone(step_over([], f, g, entry))

    def test_near_each_step_and_its_double(self):
        for steps in ALL_STEPS:
            for entry in near_entries(steps):
                for f, g in ((0, 2), (1, 2), (3, 1), (0, 0), (1, 1), (4, 4)):
                    told = step_over(steps, f, g, entry)
                    self.assertEqual(told, counted_step(steps, f, g, entry), (steps, f, g, entry))
                    self.assertIn(type(told), (int, type(None)))

    def test_for_all_forms(self):
        for count in COUNTS:
            for f, g in pairs(count):
                self.assertEqual(step_over([-3, 7], f, g, 5), 14 if f == g else 7)
                self.assertEqual(step_over([-3, 7], f, g, 8), 14 if f == g else None)
                self.assertEqual(step_over([-3, 7], f, g, -5), -3 if f != g else 14)
                self.assertEqual(step_over([-3, 7], f, g, -6), -6 if f == g else -3)

    def test_numbers_of_three_hundred_figures(self):
        steps = [-HUGE, HUGE]
        self.assertEqual(step_over(steps, 0, 2, -HUGE), -HUGE)
        self.assertEqual(step_over(steps, 0, 2, -HUGE + 1), HUGE)
        self.assertIsNone(step_over(steps, 0, 2, HUGE + 1))
        self.assertEqual(step_over(steps, 1, 1, HUGE + 1), 2 * HUGE)
        self.assertEqual(step_over(steps, 1, 1, 2 * HUGE), 2 * HUGE)
        self.assertIsNone(step_over(steps, 1, 1, 2 * HUGE + 1))
        self.assertEqual(step_over(steps, 1, 1, -2 * HUGE), -2 * HUGE)
        self.assertEqual(step_over(steps, 1, 1, -2 * HUGE + 1), 2 * HUGE)


class TestWidened(unittest.TestCase):
    def test_as_told(self):
        table = closed(1, [(0, 0, 6), (1, 1, 0)])
        self.assertEqual(table, [[6, 0], [0, 0]])
        self.assertEqual(widened(table, [[4, 0], [0, -2]], [5]), [[6, 0], [0, 0]])
        self.assertEqual(widened(table, [[8, 0], [0, -2]], [5]), [[10, 0], [0, 0]])
        self.assertEqual(widened(table, [[12, 0], [0, -2]], [5]), [[None, 0], [0, 0]])
        self.assertEqual(widened(table, [[6, 0], [0, 2]], [5]), [[6, 0], [0, 10]])
        self.assertEqual(widened(table, [[8, 0], [0, 2]], [4, 9]), [[8, 0], [0, 8]])

    def test_sums_of_two_names(self):
        table = counted_shape([(0, 0)])
        shape = counted_shape([(0, 0), (2, 3)])
        self.assertEqual(widened(table, shape, [2, 4]), [
            [4, 0, None, 0], [0, 0, 2, 0], [None, 2, 8, 0], [0, 0, 0, 0],
        ])

    def test_no_bound_on_either_side_and_on_both(self):
        for steps in ALL_STEPS:
            self.assertEqual(widened([[None, 0], [0, 4]], [[4, 0], [0, 4]], steps), [[None, 0], [0, 4]])
            self.assertEqual(widened([[4, 0], [0, 4]], [[None, 0], [0, 4]], steps), [[None, 0], [0, 4]])
            self.assertEqual(widened([[None, 0], [0, 4]], [[None, 0], [0, 4]], steps), [[None, 0], [0, 4]])
            self.assertEqual(widened(wide(3), wide(3), steps), wide(3))

    def test_by_itself_it_stays(self):
        dice = Dice(201)
        for steps in ALL_STEPS:
            for count, sides, shape in open_shapes(dice, 3):
                self.assertEqual(widened(shape, shape, steps), shape)

    def test_by_a_shape_within_it_stays(self):
        for count in COUNTS:
            for point in points(count)[:8]:
                for other in points(count)[8:16]:
                    both = counted_shape([point, other])
                    self.assertEqual(widened(both, counted_shape([point]), [1, 7]), both)

    def test_without_steps_what_does_not_stay_has_no_bound(self):
        dice = Dice(202)
        for count in COUNTS:
            for point in points(count)[:6]:
                table, shape = thrown_table(dice, count, 9), counted_shape([point])
                told = widened(table, shape, [])
                for f in forms(count):
                    for g in forms(count):
                        stays = table[f][g] is None or shape[f][g] <= table[f][g]
                        self.assertEqual(told[f][g], table[f][g] if stays else None)

    def test_just_one_above_and_not_above(self):
        for f, g in pairs(2):
            for steps in ALL_STEPS:
                table, shape = counted_shape([(4, -3)]), counted_shape([(4, -3)])
                table[f][g] = table[g][f] = shape[f][g] - 2
                wanted = counted_shape([(4, -3)])
                wanted[f][g] = wanted[g][f] = counted_step(steps, f, g, shape[f][g])
                self.assertEqual(widened(table, shape, steps), wanted)
                table[f][g] = table[g][f] = shape[f][g] + 2
                self.assertEqual(widened(table, shape, steps), table)

    def test_flips_stay_at_0(self):
        dice = Dice(203)
        for count, sides, shape in open_shapes(dice, 4):
            for steps in ([], [4], [-5, -1]):
                told = widened(thrown_table(dice, count, 5), shape, steps)
                self.assertEqual([told[f][flips(count)[f]] for f in forms(count)], [0] * (2 * count))

    def test_tables_that_are_no_shape_of_any_points(self):
        # Nothing is below 0 and above 0 at once.
        table = [[-4, 0], [0, -4]]
        self.assertEqual(widened(table, [[-6, 0], [0, 6]], [2, 9]), [[-4, 0], [0, 18]])
        self.assertEqual(widened(table, [[-4, 0], [0, 4]], [2, 9]), [[-4, 0], [0, 4]])
        self.assertEqual(widened(table, [[0, 0], [0, 0]], [-9]), [[None, 0], [0, None]])
        # Far looser than the sums of its names.
        table = closed(2, [(f, f, 2) for f in forms(2)])
        table[0][2] = table[2][0] = 50
        told = widened(table, counted_shape([(7, 1)]), [3, 9])
        self.assertEqual((told[0][2], told[2][0], told[0][0], told[0][3]), (50, 50, 18, 9))

    def test_as_found_entry_by_entry(self):
        dice = Dice(204)
        seen = set()
        for count, sides, shape in open_shapes(dice, 8):
            for steps in ALL_STEPS:
                for reach in (4, 12, HUGE):
                    table = thrown_table(dice, count, reach)
                    told = widened(table, shape, steps)
                    self.assertEqual(told, counted_widened(table, shape, steps))
                    for one, other in zip(sum(table, []), sum(shape, [])):
                        seen.add((one is None, other is None, is_above(other, one)))
        self.assertEqual(len(seen), 5)

    def test_what_is_widened_holds_the_shape_and_may_be_widened_again(self):
        dice = Dice(205)
        for count, inside, shape in boxed_shapes(dice, ((1, 8), (2, 12), (3, 8))):
            if shape is not None:
                for steps in ALL_STEPS:
                    told = widened(thrown_table(dice, count, 3), shape, steps)
                    for f in forms(count):
                        for g in forms(count):
                            self.assertEqual(told[f][g], told[g][f])
                            self.assertFalse(is_above(shape[f][g], told[f][g]))
                        self.assertTrue(told[f][f] is None or told[f][f] % 2 == 0)
                    self.assertEqual(widened(told, shape, steps), told)


if __name__ == "__main__":
    unittest.main()
