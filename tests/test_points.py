"""Points 10, 14, 15 and 16: points that lie in tables, and points that reach sums of up to three forms."""

import itertools
import unittest

from eightsides.closing import closed, wide
from eightsides.points import greatest, lies, reaching, some_point
from tests.counting import (
    Dice, box, boxed_points, boxed_sides, counted_shape, is_kept, sides_round, sum_of, thrown_sides,
)
from tests.samples import COUNTS, HUGE, flips, forms, points, worths
from tests.shapes import open_shapes


def form_lists(count):
    """All lists of none, one, two and three forms, those of three in one order each."""
    found = [[]]
    found.extend([[f] for f in forms(count)])
    found.extend([list(two) for two in itertools.product(forms(count), repeat=2)])
    found.extend([list(three) for three in itertools.combinations_with_replacement(forms(count), 3)])
    return found


def thrown_lists(dice, count, many):
    """Lists of three forms, those alike and flips among them."""
    found = [[], [dice.below(2 * count)], [dice.below(2 * count), dice.below(2 * count)]]
    for turn in range(many):
        f, g = dice.below(2 * count), dice.below(2 * count)
        for h in (dice.below(2 * count), f, flips(count)[f]):
            found.append(dice.shuffled([f, g, h]))
    return found


class TestLies(unittest.TestCase):
    def test_none(self):
        for count in COUNTS:
            for point in points(count):
                self.assertIs(lies(None, point), False)

    def test_all_points_in_the_wide_shape(self):
        for count in COUNTS:
            for point in points(count):
                self.assertIs(lies(wide(count), point), True)

    def test_just_at_an_entry_and_above_it(self):
        for count in COUNTS:
            for point in points(count):
                here = worths(point)
                for f in forms(count):
                    g = (3 * f + 1) % (2 * count)
                    table = [[None] * (2 * count) for row in forms(count)]
                    table[f][g] = here[f] + here[g]
                    self.assertIs(lies(table, point), True)
                    table[f][g] -= 1
                    self.assertIs(lies(table, point), False)
                    table[f][g] += HUGE
                    self.assertIs(lies(table, point), True)

    def test_each_entry_counts(self):
        for count in (1, 2, 6):
            point = points(count)[3]
            exact = counted_shape([point])
            self.assertIs(lies(exact, point), True)
            for f in forms(count):
                for g in forms(count):
                    table = [list(row) for row in exact]
                    table[f][g] -= 1
                    self.assertIs(lies(table, point), False)

    def test_tables_that_are_no_shapes(self):
        self.assertIs(lies([[None, None], [None, None]], (7,)), True)
        self.assertIs(lies([[None, -1], [None, None]], (7,)), False)
        self.assertIs(lies([[None, 3], [0, None]], (-7,)), True)
        self.assertIs(lies([[5, 0], [0, -3]], (2,)), True)
        self.assertIs(lies([[5, 0], [0, -3]], (3,)), False)
        self.assertIs(lies([[5, 0], [0, -3]], (1,)), False)
        self.assertIs(lies([[4, 0], [0, -6]], (2,)), False)

    def test_entries_that_are_not_alike(self):
        table = wide(2)
        table[2][0] = 4
        self.assertIs(lies(table, (1, 3)), True)
        self.assertIs(lies(table, (1, 4)), False)
        table = wide(2)
        table[0][2] = 4
        self.assertIs(lies(table, (1, 3)), True)
        self.assertIs(lies(table, (1, 4)), False)

    def test_just_the_points_that_keep_the_sides(self):
        dice = Dice(31)
        for count in COUNTS:
            for turn in range(6):
                sides = boxed_sides(dice, count)
                shape = closed(count, sides)
                for point in box(count, 2 if count < 5 else 1):
                    self.assertIs(lies(shape, point), is_kept(point, sides))


class TestSomePoint(unittest.TestCase):
    def check(self, sides, shape, told):
        self.assertIs(type(told), tuple)
        self.assertEqual([type(number) for number in told], [int] * (len(shape) // 2))
        self.assertTrue(is_kept(told, sides), (sides, told))
        self.assertIs(lies(shape, told), True)

    def test_none_of_the_empty_shape(self):
        self.assertIsNone(some_point(None))

    def test_the_wide_shape(self):
        for count in COUNTS:
            self.check([], wide(count), some_point(wide(count)))

    def test_one_point_alone(self):
        for count in COUNTS:
            for point in points(count):
                self.assertEqual(some_point(counted_shape([point])), point)

    def test_small_boxes(self):
        dice = Dice(32)
        for count in COUNTS:
            for turn in range(30):
                sides = boxed_sides(dice, count)
                shape = closed(count, sides)
                if shape is None:
                    self.assertEqual(boxed_points(count, sides), [])
                else:
                    self.check(sides, shape, some_point(shape))

    def test_open_shapes(self):
        for count, sides, shape in open_shapes(Dice(33), 24):
            self.check(sides, shape, some_point(shape))

    def test_bounded_on_one_side_alone(self):
        for sides in ([(0, 0, -HUGE)], [(1, 1, -HUGE)], [(0, 2, -5), (0, 3, -HUGE)], [(1, 2, -5), (1, 3, -9)]):
            shape = closed(2, sides)
            self.check(sides, shape, some_point(shape))

    def test_sums_that_are_odd(self):
        # x + y = 1 leaves no point with both numbers alike.
        sides = [(0, 2, 1), (1, 3, -1), (0, 3, 1), (1, 2, 1)]
        shape = closed(2, sides)
        self.check(sides, shape, some_point(shape))


class TestGreatest(unittest.TestCase):
    def test_no_forms(self):
        for count in COUNTS:
            for point in points(count)[:4]:
                self.assertEqual(greatest(counted_shape([point]), []), 0)
            self.assertEqual(greatest(wide(count), []), 0)
            self.assertIs(type(greatest(wide(count), [])), int)

    def test_one_form_is_half_of_its_entry(self):
        shape = closed(2, [(0, 0, 7), (1, 1, -3), (3, 3, HUGE)])
        self.assertEqual([greatest(shape, [f]) for f in range(4)], [3, -2, None, (HUGE - 1) // 2])

    def test_two_forms_are_the_entry(self):
        for count, sides, shape in open_shapes(Dice(34), 4):
            for f in forms(count):
                for g in forms(count):
                    self.assertEqual(greatest(shape, [f, g]), shape[f][g])

    def test_three_forms_by_each_of_the_four(self):
        self.assertEqual(greatest(closed(3, [(0, 2, 5), (4, 4, 4)]), [0, 2, 4]), 7)
        self.assertEqual(greatest(closed(3, [(0, 4, 5), (2, 2, 4)]), [0, 2, 4]), 7)
        self.assertEqual(greatest(closed(3, [(2, 4, 5), (0, 0, 4)]), [0, 2, 4]), 7)
        self.assertEqual(greatest(closed(3, [(0, 2, 5), (2, 4, 5), (0, 4, 5)]), [0, 2, 4]), 7)
        self.assertEqual(greatest(closed(3, [(0, 2, -5), (2, 4, -5), (0, 4, -5)]), [0, 2, 4]), -8)

    def test_three_forms_without_a_greatest(self):
        self.assertIsNone(greatest(wide(3), [0, 2, 4]))
        self.assertIsNone(greatest(closed(3, [(0, 2, 5), (2, 4, 5)]), [0, 2, 4]))
        self.assertIsNone(greatest(closed(3, [(0, 0, 6), (2, 2, 6)]), [0, 2, 4]))
        self.assertIsNone(greatest(closed(3, [(0, 2, 5), (4, 4, 6)]), [0, 2, 5]))

    def test_alike_forms(self):
        shape = closed(2, [(0, 0, 6), (0, 2, 4), (2, 2, HUGE)])
        self.assertEqual(greatest(shape, [0, 0, 0]), 9)
        self.assertEqual(greatest(shape, [0, 0, 2]), 7)
        self.assertEqual(greatest(shape, [2, 0, 2]), 4 + (HUGE - 1) // 2)
        self.assertIsNone(greatest(shape, [1, 1, 1]))

    def test_flips_fall_out(self):
        for count, sides, shape in open_shapes(Dice(35), 3):
            for f, flip in enumerate(flips(count)):
                self.assertEqual(greatest(shape, [f, flip]), 0)
                for h in forms(count):
                    for three in ([f, flip, h], [f, h, flip], [h, f, flip]):
                        self.assertEqual(greatest(shape, three), greatest(shape, [h]))

    def test_counted_in_small_boxes(self):
        dice = Dice(36)
        for count, turns in ((1, 40), (2, 60), (3, 40), (4, 6), (5, 3), (6, 2)):
            for turn in range(turns):
                sides = boxed_sides(dice, count)
                kept = boxed_points(count, sides)
                for some in form_lists(count) if kept else []:
                    wanted = max([sum_of(point, some) for point in kept])
                    self.assertEqual(greatest(closed(count, sides), some), wanted, (sides, some))

    def test_none_just_where_the_sums_grow_with_the_box(self):
        dice = Dice(37)
        for count, near, far, turns in ((2, 16, 20, 25), (3, 7, 9, 4)):
            for turn in range(turns):
                sides = thrown_sides(dice, count, 1 + dice.below(2 * count), -1, 2)
                close = [point for point in box(count, near) if is_kept(point, sides)]
                wider = [point for point in box(count, far) if is_kept(point, sides)]
                for some in form_lists(count) if close else []:
                    wanted = max([sum_of(point, some) for point in close])
                    if max([sum_of(point, some) for point in wider]) > wanted:
                        wanted = None
                    self.assertEqual(greatest(closed(count, sides), some), wanted, (sides, some))

    def test_the_same_in_each_order(self):
        dice = Dice(38)
        for count, sides, shape in open_shapes(dice, 6):
            for some in thrown_lists(dice, count, 12):
                told = {greatest(shape, list(order)) for order in itertools.permutations(some)}
                self.assertEqual(len(told), 1, (sides, some))


class TestReaching(unittest.TestCase):
    def check(self, sides, shape, some, number):
        told = reaching(shape, some, number)
        self.assertIs(type(told), tuple, (sides, some, number))
        self.assertEqual([type(one) for one in told], [int] * (len(shape) // 2))
        self.assertTrue(is_kept(told, sides), (sides, some, number, told))
        self.assertIs(lies(shape, told), True)
        self.assertGreaterEqual(sum_of(told, some), number, (sides, some, told))
        return told

    def check_all(self, sides, shape, some):
        most = greatest(shape, some)
        if most is None:
            for number in (-HUGE, -1, 0, 1, 12, HUGE, HUGE ** 2):
                self.check(sides, shape, some, number)
            return
        self.assertEqual(sum_of(self.check(sides, shape, some, most), some), most)
        for less in (1, 2, 3, 7, HUGE):
            self.check(sides, shape, some, most - less)
        for more in (1, 2, HUGE):
            self.assertIsNone(reaching(shape, some, most + more))

    def test_none_of_the_empty_shape(self):
        for some in ([], [0], [0, 2], [0, 1], [1, 1, 1], [0, 2, 3]):
            for number in (-HUGE, -1, 0, 1):
                self.assertIsNone(reaching(None, some, number))

    def test_no_forms(self):
        for count, sides, shape in open_shapes(Dice(41), 4):
            for number in (-HUGE, -1, 0):
                self.check(sides, shape, [], number)
            for number in (1, HUGE):
                self.assertIsNone(reaching(shape, [], number))

    def test_a_form_and_its_flip(self):
        for count, sides, shape in open_shapes(Dice(42), 4):
            for f, flip in enumerate(flips(count)):
                self.check(sides, shape, [f, flip], 0)
                self.assertIsNone(reaching(shape, [f, flip], 1))

    def test_all_lists_of_forms_in_small_boxes(self):
        dice = Dice(43)
        for count, turns in ((1, 12), (2, 8), (3, 3)):
            for turn in range(turns):
                sides = boxed_sides(dice, count)
                shape = closed(count, sides)
                for some in form_lists(count) if shape is not None else []:
                    self.check_all(sides, shape, some)

    def test_counted_in_small_boxes(self):
        dice = Dice(44)
        for count in COUNTS:
            for turn in range(8):
                sides = boxed_sides(dice, count)
                kept = boxed_points(count, sides)
                for some in thrown_lists(dice, count, 2) if kept else []:
                    most = max([sum_of(point, some) for point in kept])
                    self.check(sides, closed(count, sides), some, most)
                    self.assertIsNone(reaching(closed(count, sides), some, most + 1))

    def test_all_lists_of_forms_in_open_shapes(self):
        dice = Dice(45)
        for count, turns in ((1, 8), (2, 8), (3, 6)):
            for turn in range(turns):
                sides = sides_round(dice, points(count)[dice.below(24)], dice.below(2 * count + 1), 3)
                shape = closed(count, sides)
                for some in form_lists(count) if turn < 4 else thrown_lists(dice, count, 10):
                    self.check_all(sides, shape, some)

    def test_open_shapes(self):
        dice = Dice(46)
        for count, sides, shape in open_shapes(dice, 8):
            for some in thrown_lists(dice, count, 4):
                self.check_all(sides, shape, some)

    def test_the_wide_shape(self):
        dice = Dice(47)
        for count in COUNTS:
            for some in thrown_lists(dice, count, 5):
                self.check_all([], wide(count), some)

    def test_three_forms_where_one_has_to_stand_high(self):
        # The others rise with it: x <= z + 3, y <= z - 9; or with bounds of their own.
        for sides in (
            [(0, 5, 3), (2, 5, -9)],
            [(0, 5, -9), (2, 5, 3)],
            [(0, 5, -30), (2, 5, -40)],
            [(0, 5, 3), (2, 2, -9)],
            [(0, 5, -30), (2, 2, 8)],
            [(0, 0, 3), (2, 5, -9)],
            [(0, 0, 8), (2, 5, -30)],
            [(0, 2, -HUGE), (5, 5, -8)],
            [(0, 2, -4), (0, 5, 1), (2, 5, 1), (5, 5, -100)],
            [(0, 4, 5), (2, 2, 6)],
            [(0, 4, 5), (2, 5, 6)],
        ):
            for some in ([0, 2, 4], [4, 0, 2], [2, 4, 0]):
                self.check_all(sides, closed(3, sides), some)

    def test_three_forms_whose_pairs_bound_them(self):
        for c in (5, 4, 0, -1, -5, HUGE):
            sides = [(0, 2, c), (2, 4, c), (0, 4, c)]
            shape = closed(3, sides)
            self.assertEqual(greatest(shape, [0, 2, 4]), 3 * c // 2)
            self.check_all(sides, shape, [0, 2, 4])

    def test_three_alike_forms_and_numbers_between_their_totals(self):
        sides = [(0, 0, 8), (1, 1, 4)]
        shape = closed(1, sides)
        for number in range(-20, 13):
            self.check(sides, shape, [0, 0, 0], number)
        self.assertIsNone(reaching(shape, [0, 0, 0], 13))
        self.check(sides, shape, [1, 1, 1], 6)
        self.assertIsNone(reaching(shape, [1, 1, 1], 7))

    def test_two_alike_forms_and_another(self):
        for sides in ([(0, 2, 4), (0, 0, 6)], [(0, 3, 4), (2, 2, -5)], [(0, 2, 3)], [(0, 3, 1), (2, 0, 2), (3, 3, 9)]):
            for some in ([0, 0, 2], [2, 0, 0], [0, 2, 0], [2, 2, 0], [1, 1, 2], [3, 1, 3]):
                self.check_all(sides, closed(2, sides), some)


class TestEachNumberIsMet(unittest.TestCase):
    """Point 3: a point meets each number of a table, and where no number stands points go as far as one asks."""

    def test_points_told_for_each_entry(self):
        for count, sides, shape in open_shapes(Dice(51), 5):
            for f in forms(count):
                for g in range(f, 2 * count):
                    entry = shape[f][g]
                    number = HUGE ** 2 if entry is None else entry
                    told = reaching(shape, [f, g], number)
                    self.assertTrue(is_kept(told, sides))
                    if entry is None:
                        self.assertGreaterEqual(sum_of(told, [f, g]), number)
                    else:
                        self.assertEqual(sum_of(told, [f, g]), entry)


if __name__ == "__main__":
    unittest.main()
