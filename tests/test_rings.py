"""Point 13: a ring of sides just where no point keeps them all, walked leg by leg."""

import unittest

from eightsides.closing import closed, told_sides
from eightsides.rings import ring
from tests.counting import Dice, box, box_sides, check_ring, is_kept, sides_round, thrown_sides
from tests.samples import COUNTS, HUGE, flips, forms, points


def against_side(count, side):
    """The side that is kept just where the side is not, found without the package."""
    flip = flips(count)
    return (flip[side[0]], flip[side[1]], -side[2] - 1)


def rising_chain(count):
    """Each name is below the next one."""
    return [(2 * k, 2 * k + 3, -1) for k in range(count - 1)]


def equal_names(count):
    sides = []
    for k in range(count - 1):
        sides.extend([(2 * k, 2 * k + 3, 0), (2 * k + 1, 2 * k + 2, 0)])
    return sides


class TestNoRing(unittest.TestCase):
    def test_no_sides(self):
        for count in COUNTS:
            self.assertIsNone(ring(count, []))

    def test_one_side_of_two_forms(self):
        for count in COUNTS:
            flip = flips(count)
            for f in forms(count):
                for g in forms(count):
                    for c in (-HUGE, -1, 0, 3):
                        if g != flip[f]:
                            self.assertIsNone(ring(count, [(f, g, c)]))

    def test_a_form_and_its_flip_from_zero_on(self):
        self.assertIsNone(ring(2, [(0, 1, 0), (3, 2, 0), (1, 0, HUGE)]))

    def test_sides_that_a_point_keeps(self):
        dice = Dice(21)
        for count in COUNTS:
            for point in points(count)[:10]:
                self.assertIsNone(ring(count, sides_round(dice, point, dice.below(121), dice.below(3))))

    def test_a_form_twice_just_at_a_point(self):
        self.assertIsNone(ring(1, [(0, 0, 4), (1, 1, -4)]))
        self.assertIsNone(ring(1, [(0, 0, 5), (1, 1, -4)]))
        self.assertIsNone(ring(1, [(0, 0, 5), (1, 1, -3), (0, 1, 0)]))


class TestRing(unittest.TestCase):
    def check(self, count, sides):
        told = ring(count, sides)
        self.assertIsNotNone(told, sides)
        check_ring(self, count, sides, told)
        return told

    def test_a_form_and_its_flip_below_zero(self):
        for count in COUNTS:
            for f, flip in enumerate(flips(count)):
                for c in (-1, -HUGE):
                    first, second = self.check(count, [(f, flip, c)])
                    self.assertEqual(second, [])

    def test_straight_away(self):
        for count in COUNTS:
            for f in forms(count):
                for g in forms(count):
                    for c in (-HUGE, -1, 0, 6):
                        side = (f, g, c)
                        self.check(count, [side, against_side(count, side)])

    def test_one_form_halfway(self):
        first, second = self.check(1, [(0, 0, 5), (1, 1, -5)])
        self.assertEqual(sorted([first, second]), [[(0, 0, 0)], [(1, 1, 1)]])
        self.check(1, [(0, 0, HUGE), (1, 1, -HUGE)])

    def test_only_by_halves(self):
        sides = [(0, 2, 1), (1, 3, -1), (0, 3, 0), (1, 2, 0)]
        first, second = self.check(2, sides)
        self.assertEqual((len(first), len(second)), (2, 2))
        for place in range(4):
            self.assertIsNone(ring(2, sides[:place] + sides[place + 1:]))

    def test_a_chain_round_all_names(self):
        for count in range(2, 7):
            round_about = rising_chain(count) + [(2 * count - 2, 1, count - 2)]
            first, second = self.check(count, round_about)
            self.assertEqual((len(first), second), (count, []))
            self.assertIsNone(ring(count, rising_chain(count) + [(2 * count - 2, 1, count - 1)]))

    def test_a_chain_through_all_forms(self):
        # The last name is not above 0, so the first one, count - 1 below it, is not 2 - count or more.
        for count in COUNTS:
            last = 2 * count - 2
            sides = rising_chain(count) + [(last, last, 0), (1, 1, 2 * (count - 2))]
            first, second = self.check(count, sides)
            self.assertEqual(len(first) + len(second), 2 * count)
            self.assertIsNone(ring(count, sides[:-1] + [(1, 1, 2 * (count - 1))]))

    def test_long_chains_only_by_halves(self):
        for count in range(2, 7):
            last = 2 * count - 2
            sides = equal_names(count) + [(0, last, HUGE), (1, last + 1, -HUGE)]
            first, second = self.check(count, sides)
            self.assertEqual((len(first), len(second)), (count, count))
            self.assertIsNone(ring(count, equal_names(count) + [(0, last, HUGE), (1, last + 1, -HUGE + 1)]))

    def test_several_rings(self):
        self.check(2, [(0, 0, -2), (1, 1, 0), (2, 3, -1), (0, 2, 4), (1, 3, -5), (0, 3, -1), (1, 2, 0)])

    def test_the_stronger_of_alike_sides(self):
        for sides in ([(0, 2, 3), (0, 2, 1), (1, 3, -2)], [(0, 2, 1), (2, 0, 3), (1, 3, -2)], [(1, 3, -2), (2, 0, 1)]):
            self.check(2, sides)
        self.assertIsNone(ring(2, [(0, 2, 3), (2, 0, 2), (1, 3, -2)]))

    def test_places_count_sides_that_do_not_matter(self):
        sides = [(0, 1, 7)] * 50 + [(2, 2, 4)] + [(0, 3, 9)] * 60 + [(3, 3, -6)] + [(2, 2, 8)] * 8
        first, second = self.check(2, sides)
        self.assertEqual({leg[0] for leg in first + second}, {50, 111})

    def test_forms_the_other_way_round(self):
        sides = [(3, 0, -1), (5, 2, -1), (1, 4, 1)]
        self.check(3, sides)
        self.check(3, [(g, f, c) for f, g, c in sides])

    def test_three_hundred_figures(self):
        self.check(3, [(0, 3, HUGE), (2, 5, -HUGE), (4, 1, HUGE), (1, 4, -1)])
        self.assertIsNone(ring(3, [(0, 3, HUGE), (2, 5, -HUGE), (4, 1, HUGE), (1, 4, 0)]))
        self.check(2, [(0, 2, HUGE), (1, 3, -HUGE - 1)])


class TestJustWhereNoPoint(unittest.TestCase):
    def test_counted_in_small_boxes(self):
        dice = Dice(22)
        kinds = {"none": 0, "one": 0, "two": 0}
        for count, size, turns in ((1, 4, 150), (2, 3, 250), (3, 2, 200)):
            for turn in range(turns):
                some = thrown_sides(dice, count, dice.below(3 * count + 2), -3, 3)
                sides = dice.shuffled(some + box_sides(count, size))
                told = ring(count, sides)
                kept = [point for point in box(count, size) if is_kept(point, sides)]
                self.assertEqual(told is None, len(kept) > 0, sides)
                if told is not None:
                    check_ring(self, count, sides, told)
                    kinds["two" if told[1] else "one"] += 1
                else:
                    kinds["none"] += 1
        self.assertTrue(min(kinds.values()) > 5, kinds)

    def test_just_where_the_shape_is_empty(self):
        dice = Dice(23)
        empty = 0
        for count in COUNTS:
            for turn in range(25):
                sides = thrown_sides(dice, count, dice.below(5 * count + 2), -6, 9)
                told = ring(count, sides)
                self.assertEqual(told is None, closed(count, sides) is not None)
                if told is not None:
                    check_ring(self, count, sides, told)
                    empty += 1
        self.assertTrue(30 < empty < 130, empty)

    def test_equalities_that_clash_only_by_halves(self):
        dice = Dice(24)
        clashing = 0
        for count in range(2, 7):
            for turn in range(10):
                sides = dice.shuffled(self.equalities_round(dice, count))
                told = ring(count, sides)
                self.assertEqual(told is None, closed(count, sides) is not None)
                if told is not None:
                    check_ring(self, count, sides, told)
                    self.assertNotEqual(told[1], [])
                    clashing += 1
        self.assertTrue(10 < clashing < 40, clashing)

    def equalities_round(self, dice, count):
        """Equalities between each name and the next, and the last and the first, kept where all names are halfway."""
        doubled = [2 * dice.between(-9, 9) + 1 for k in range(count)]
        here = [sign * number for number in doubled for sign in (1, -1)]
        sides = []
        for k in range(count):
            f, g = 2 * k, (2 * k + 2) % (2 * count) + dice.below(2)
            c = (here[f] + here[g]) // 2
            sides.extend([(f, g, c), (f ^ 1, g ^ 1, -c)])
        return sides

    def test_against_each_told_side(self):
        dice = Dice(25)
        for count in COUNTS:
            for point in points(count)[5:8]:
                sides = sides_round(dice, point, 4 * count, 7)
                for side in told_sides(closed(count, sides)):
                    with_against = sides + [against_side(count, side)]
                    check_ring(self, count, with_against, ring(count, with_against))

    def test_a_hundred_and_twenty_sides(self):
        dice = Dice(26)
        for count in COUNTS:
            for point in points(count)[3:6]:
                sides = sides_round(dice, point, 119, 2)
                self.assertIsNone(ring(count, sides))
                told = told_sides(closed(count, sides))
                sides.insert(dice.below(120), against_side(count, told[dice.below(len(told))]))
                self.assertEqual(len(sides), 120)
                check_ring(self, count, sides, ring(count, sides))


if __name__ == "__main__":
    unittest.main()
