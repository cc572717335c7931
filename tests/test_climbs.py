"""Point 27: climbs, which rise over the shapes that they take, but never more often than their patience."""

import unittest

from eightsides.climbs import Climb
from eightsides.closing import closed, told_sides, wide
from tests.counting import Dice, SIZES, box, counted_shape, is_in
from tests.samples import COUNTS, HUGE, NUMBERS, flips, forms, points
from tests.shapes import boxed_shapes, shapes_round_points
from tests.widening import ALL_STEPS, counted_widened, is_above

PATIENCES = (1, 2, 3, 20)


class Told:
    """A climb as the document tells it, with the kept table beside the shape."""

    def __init__(self, count, steps, patience):
        self.count, self.steps, self.patience = count, tuple(steps), patience
        self.kept, self.shape, self.rises = None, None, 0

    def take(self, shape):
        if shape is None or (self.shape is not None and not any(
            is_above(entry, own) for row, own_row in zip(shape, self.shape) for entry, own in zip(row, own_row)
        )):
            return False
        self.rises += 1
        if self.rises == self.patience:
            self.kept = self.shape = wide(self.count)
        elif self.rises == 1:
            self.kept = self.shape = [list(row) for row in shape]
        else:
            self.kept = counted_widened(self.kept, shape, self.steps)
            self.shape = closed(self.count, told_sides(self.kept))
        return True


def span(low, high):
    """The shape of one name from low to high."""
    return [[2 * high, 0], [0, -2 * low]]


def thrown_shapes(dice, count):
    """Shapes of one count, some empty, some with bounds and some without, some of a point alone."""
    found = [None, counted_shape([points(count)[dice.below(24)]])]
    found.extend([shape for own, point, sides, shape in shapes_round_points(dice, 2) if own == count])
    found.extend([shape for own, inside, shape in boxed_shapes(dice, [(count, 6)])])
    for turn in range(4):
        found.append(counted_shape([tuple(dice.between(-12, 12) for k in range(count))]))
    return dice.shuffled(found)


class TestBegun(unittest.TestCase):
    def test_a_climb_that_took_nothing(self):
        for count in COUNTS:
            for steps in ALL_STEPS:
                for patience in PATIENCES:
                    climb = Climb(count, steps, patience)
                    self.assertIsNone(climb.shape())
                    self.assertEqual(climb.rises(), 0)
                    self.assertIs(type(climb.rises()), int)

    def test_the_empty_shape_ahead_changes_nothing(self):
        for patience in PATIENCES:
            climb = Climb(1, [4], patience)
            for turn in range(3):
                self.assertIs(climb.take(None), False)
                self.assertIsNone(climb.shape())
                self.assertEqual(climb.rises(), 0)
        climb = Climb(1, [4], 3)
        climb.take(None)
        self.assertIs(climb.take(span(1, 2)), True)
        self.assertEqual((climb.shape(), climb.rises()), (span(1, 2), 1))

    def test_the_empty_shape_behind_changes_nothing(self):
        for patience in PATIENCES:
            climb = Climb(1, [4], patience)
            climb.take(span(1, 2))
            before = climb.shape()
            self.assertIs(climb.take(None), False)
            self.assertEqual((climb.shape(), climb.rises()), (before, 1))


class TestRises(unittest.TestCase):
    def test_the_first_rise_keeps_the_taken_shape(self):
        for steps in ALL_STEPS:
            for count, point, sides, shape in shapes_round_points(Dice(211), 4):
                for patience in (2, 3, 20):
                    climb = Climb(count, steps, patience)
                    self.assertIs(climb.take(shape), True)
                    self.assertEqual(climb.shape(), shape)
                    self.assertEqual(climb.rises(), 1)

    def test_as_told(self):
        climb = Climb(1, [3, 10], 20)
        told = []
        for low, high in ((0, 0), (0, 1), (0, 3), (0, 4), (-1, 0), (-4, 4), (0, 11), (-11, 0)):
            told.append((climb.take(span(low, high)), climb.shape(), climb.rises()))
        self.assertEqual(told, [
            (True, span(0, 0), 1),
            (True, span(0, 3), 2),
            (False, span(0, 3), 2),
            (True, span(0, 10), 3),
            (True, span(-3, 10), 4),
            (True, span(-10, 10), 5),
            (True, [[None, 0], [0, 20]], 6),
            (True, wide(1), 7),
        ])

    def test_what_lies_in_its_shape_changes_nothing(self):
        climb = Climb(2, [5], 20)
        climb.take(counted_shape([(0, 0)]))
        climb.take(counted_shape([(1, 2)]))
        before = climb.shape()
        for point in box(2, 6):
            if is_in(before, point):
                self.assertIs(climb.take(counted_shape([point])), False)
        self.assertIs(climb.take(before), False)
        self.assertEqual((climb.shape(), climb.rises()), (before, 2))

    def test_one_point_beyond_is_enough_to_rise(self):
        for point in box(2, 7):
            climb = Climb(2, [5], 20)
            climb.take(counted_shape([(0, 0)]))
            climb.take(counted_shape([(1, 2)]))
            is_beyond = not is_in(climb.shape(), point)
            self.assertIs(climb.take(counted_shape([point])), is_beyond)
            self.assertEqual(climb.rises(), 2 + is_beyond)
            self.assertTrue(is_in(climb.shape(), point))

    def test_the_same_shape_again_changes_nothing(self):
        for count, point, sides, shape in shapes_round_points(Dice(212), 4):
            climb = Climb(count, [-7, 0, 7], 20)
            self.assertEqual([climb.take(shape), climb.take(shape), climb.take(shape)], [True, False, False])
            self.assertEqual((climb.shape(), climb.rises()), (shape, 1))


class TestKept(unittest.TestCase):
    """The kept table is widened, not the shape of the points that lie in it."""

    def test_both_differ_and_the_kept_table_is_widened_next(self):
        climb = Climb(2, [3, 50], 20)
        climb.take(counted_shape(box(2, 1)))
        climb.take(counted_shape([(0, 3), (1, 3)]))
        # x + y is kept at 50, but no point that lies in the kept table has more than 1 + 3.
        self.assertEqual((climb.shape()[0][2], climb.shape()[0][0], climb.shape()[2][2]), (4, 2, 6))
        climb.take(counted_shape([(3, 0)]))
        # Had 4 been kept, (3, 3) would not lie in the shape.
        self.assertEqual((climb.shape()[0][2], climb.shape()[0][0], climb.shape()[2][2]), (6, 6, 6))
        self.assertTrue(is_in(climb.shape(), (3, 3)))
        self.assertIs(climb.take(counted_shape([(3, 3)])), False)
        self.assertEqual(climb.rises(), 3)

    def test_the_shape_is_that_of_all_points_in_the_kept_table(self):
        dice = Dice(213)
        for count, steps in ((1, [-2, 0, 2, 5]), (2, [-3, 0, 1, 3]), (3, [-1, 0, 1])):
            for turn in range(20):
                climb, told = Climb(count, steps, 20), Told(count, steps, 20)
                for shape in [shape for own, inside, shape in boxed_shapes(dice, [(count, 6)])]:
                    self.assertEqual(climb.take(shape), told.take(shape))
                    self.assertEqual(climb.shape(), told.shape)
                    if told.kept is not None and None not in [told.kept[f][f] for f in forms(count)]:
                        within = [point for point in box(count, 2 * SIZES[count]) if is_in(told.kept, point)]
                        self.assertEqual(climb.shape(), counted_shape(within))

    def test_a_kept_table_goes_up_each_step_once(self):
        # Each of the eight bounds of the plane goes up to the one step, and from there to none: so there are at most
        # sixteen rises behind the first one, patience or not.
        dice = Dice(214)
        for turn in range(40):
            climb = Climb(2, [4], 20)
            for taken in range(80):
                climb.take(counted_shape([(dice.between(-6, 6), dice.between(-6, 6))]))
            self.assertTrue(1 < climb.rises() <= 17)


class TestPatience(unittest.TestCase):
    def test_of_1_the_first_rise_makes_it_wide(self):
        for count, point, sides, shape in shapes_round_points(Dice(215), 4):
            climb = Climb(count, [4], 1)
            self.assertIs(climb.take(None), False)
            self.assertIs(climb.take(shape), True)
            self.assertEqual((climb.shape(), climb.rises()), (wide(count), 1))
            self.assertIs(climb.take(wide(count)), False)
            self.assertEqual((climb.shape(), climb.rises()), (wide(count), 1))

    def test_of_2_the_second_rise_makes_it_wide(self):
        for count in COUNTS:
            climb = Climb(count, [4, HUGE], 2)
            self.assertIs(climb.take(counted_shape([(0,) * count])), True)
            self.assertEqual((climb.shape(), climb.rises()), (counted_shape([(0,) * count]), 1))
            self.assertIs(climb.take(counted_shape([(0,) * count])), False)
            self.assertIs(climb.take(counted_shape([(1,) * count])), True)
            self.assertEqual((climb.shape(), climb.rises()), (wide(count), 2))
            self.assertIs(climb.take(counted_shape([(-HUGE,) * count])), False)
            self.assertEqual((climb.shape(), climb.rises()), (wide(count), 2))

    def test_each_patience_is_spent_just_at_its_rise(self):
        # Up by eight steps and beyond them, then down by them and beyond: nineteen rises that are not by patience.
        steps = [1, 2, 3, 4, 5, 6, 7, 8]
        numbers = [0, 1, 2, 3, 4, 5, 6, 7, 8, 9, -1, -2, -3, -4, -5, -6, -7, -8, -9]
        for patience in range(1, 21):
            climb, told = Climb(1, steps, patience), Told(1, steps, patience)
            for place, number in enumerate(numbers, start=1):
                rose = climb.take(span(number, number))
                self.assertIs(rose, place <= patience, (patience, number))
                self.assertEqual(rose, told.take(span(number, number)))
                self.assertEqual(climb.shape(), told.shape)
                self.assertEqual(climb.rises(), min(place, patience))
                self.assertEqual(climb.shape() == wide(1), place >= min(patience, 19))

    def test_of_20_the_twentieth_rise_makes_it_wide(self):
        steps = [1, 2, 3, 4, 5, 6, 7, 8]
        climb = Climb(2, steps, 20)
        taken = [(0, 0)] + [(number, 0) for number in range(1, 10)] + [(0, number) for number in range(1, 10)]
        for point in taken:
            self.assertIs(climb.take(counted_shape([point])), True)
        self.assertEqual(climb.rises(), 19)
        self.assertNotEqual(climb.shape(), wide(2))
        self.assertIs(climb.take(counted_shape([(-1, 0)])), True)
        self.assertEqual((climb.shape(), climb.rises()), (wide(2), 20))
        self.assertIs(climb.take(counted_shape([(-HUGE, HUGE)])), False)
        self.assertEqual(climb.rises(), 20)


class TestThrown(unittest.TestCase):
    def test_as_the_document_tells_it(self):
        dice = Dice(216)
        differing = 0
        for count in COUNTS:
            for turn in range(8):
                steps = ALL_STEPS[dice.below(len(ALL_STEPS))]
                patience = (1, 2, 3, 4, 8, 20)[dice.below(6)]
                climb, told = Climb(count, steps, patience), Told(count, steps, patience)
                for shape in thrown_shapes(dice, count):
                    rose = climb.take(shape)
                    self.assertIs(type(rose), bool)
                    self.assertEqual(rose, told.take(shape))
                    self.assertEqual((climb.shape(), climb.rises()), (told.shape, told.rises))
                    differing += told.kept != told.shape
        self.assertGreater(differing, 20)

    def test_every_point_of_every_taken_shape_lies_in_the_shape(self):
        dice = Dice(217)
        for count in COUNTS:
            for steps in ALL_STEPS:
                climb = Climb(count, steps, 1 + dice.below(20))
                taken = []
                for shape_points in thrown_points(dice, count):
                    climb.take(counted_shape(shape_points))
                    taken.extend(shape_points)
                    self.assertTrue(all(is_in(climb.shape(), point) for point in taken))

    def test_never_more_rises_than_patience(self):
        dice = Dice(218)
        for patience in range(1, 21):
            for steps in ALL_STEPS:
                climb = Climb(2, steps, patience)
                rose = []
                for turn in range(30):
                    rose.append(climb.take(counted_shape([(dice.between(-300, 300), dice.between(-300, 300))])))
                self.assertEqual(climb.rises(), rose.count(True))
                self.assertLessEqual(climb.rises(), patience)

    def test_the_shape_is_a_shape_of_some_points(self):
        for count in COUNTS:
            climb = Climb(count, [-5, 5, HUGE], 20)
            for point in points(count):
                climb.take(counted_shape([point]))
                told = climb.shape()
                self.assertEqual(closed(count, told_sides(told)), told)
                self.assertEqual([told[f][flips(count)[f]] for f in forms(count)], [0] * (2 * count))

    def test_numbers_of_three_hundred_figures(self):
        climb = Climb(1, [-HUGE, HUGE - 1, HUGE], 20)
        for number in NUMBERS:
            climb.take(span(number, number))
            self.assertTrue(is_in(climb.shape(), (number,)))
        self.assertEqual(climb.shape(), span(-HUGE, HUGE))
        climb.take(span(-HUGE - 1, HUGE + 1))
        self.assertEqual(climb.shape(), wide(1))


def thrown_points(dice, count):
    """Lists of points, empty ones among them, near 0 and far from it."""
    found = [[]]
    for reach in (3, 9, 40, HUGE):
        for many in (1, 2, 0, 3):
            found.append([tuple(dice.between(-reach, reach) for k in range(count)) for turn in range(many)])
    return found


if __name__ == "__main__":
    unittest.main()
