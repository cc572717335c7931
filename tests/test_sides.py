"""Points 5, 6 and 7: sides, chains of them, and halving."""

import unittest

from eightsides.errors import EightError, NoBlock, NoLink, NoName, NoRow, NotStraight
from eightsides.sides import against, chained, halved, keeps, linked
from tests.samples import COUNTS, HUGE, NUMBERS, flips, forms, points, worths


def pairs(count):
    return [(f, g) for f in forms(count) for g in forms(count)]


def tight_chain(point, length, slack):
    """A chain of that many sides, each kept at the point with that much to spare."""
    flip = flips(len(point))
    here = worths(point)
    sides = []
    f = 0
    for place in range(length):
        g = (5 * place + 3 * (place // 4) + 1) % len(flip)
        sides.append((f, g, here[f] + here[g] + slack))
        f = flip[g]
    return sides


class TestKeeps(unittest.TestCase):
    def test_below_at_and_above_the_number(self):
        point = (3, -4)
        for f, g, come_to in ((0, 2, -1), (0, 0, 6), (1, 1, -6), (0, 1, 0), (1, 3, 1), (2, 1, -7)):
            self.assertIs(keeps(point, (f, g, come_to + 1)), True)
            self.assertIs(keeps(point, (f, g, come_to)), True)
            self.assertIs(keeps(point, (f, g, come_to - 1)), False)

    def test_all_pairs_of_forms(self):
        for count in COUNTS:
            for point in points(count):
                here = worths(point)
                for f, g in pairs(count):
                    come_to = here[f] + here[g]
                    self.assertIs(keeps(point, (f, g, come_to + HUGE)), True)
                    self.assertIs(keeps(point, (f, g, come_to)), True)
                    self.assertIs(keeps(point, (f, g, come_to - 1)), False)

    def test_flips_come_to_zero(self):
        for point in points(3):
            for f, flip in enumerate(flips(3)):
                self.assertIs(keeps(point, (f, flip, 0)), True)
                self.assertIs(keeps(point, (f, flip, -1)), False)


class TestAgainst(unittest.TestCase):
    def test_as_told(self):
        self.assertEqual(against((0, 3, 7)), (1, 2, -8))
        self.assertEqual(against((1, 1, -5)), (0, 0, 4))
        self.assertEqual(against((4, 5, 0)), (5, 4, -1))
        self.assertEqual(against((10, 2, -1)), (11, 3, 0))
        self.assertEqual(against((0, 11, HUGE)), (1, 10, -HUGE - 1))

    def test_kept_just_where_the_side_is_not(self):
        for count in COUNTS:
            for point in points(count):
                here = worths(point)
                for f, g in pairs(count):
                    for more in (-HUGE, -1, 0, 1):
                        side = (f, g, here[f] + here[g] + more)
                        self.assertIs(keeps(point, against(side)), not keeps(point, side))

    def test_against_the_one_against_is_the_first(self):
        for f, g in pairs(6):
            for c in NUMBERS:
                self.assertEqual(against(against((f, g, c))), (f, g, c))


class TestLinked(unittest.TestCase):
    def test_as_told(self):
        self.assertEqual(linked((0, 2, 5), (3, 4, -7)), (0, 4, -2))
        self.assertEqual(linked((0, 0, 5), (1, 1, 2)), (0, 1, 7))
        self.assertEqual(linked((0, 3, HUGE), (2, 0, HUGE)), (0, 0, 2 * HUGE))
        self.assertEqual(linked((6, 7, 0), (6, 11, 1)), (6, 11, 1))

    def test_all_pairs_of_sides(self):
        flip = flips(3)
        for f, g in pairs(3):
            for first, h in pairs(3):
                if first == flip[g]:
                    self.assertEqual(linked((f, g, 9), (first, h, -4)), (f, h, 5))
                else:
                    self.assertRaises(NoLink, linked, (f, g, 9), (first, h, -4))

    def test_a_side_that_begins_with_the_same_form_does_not_link(self):
        self.assertRaises(NoLink, linked, (0, 2, 5), (2, 4, -7))

    def test_linking_has_an_order(self):
        self.assertRaises(NoLink, linked, (3, 4, -7), (0, 2, 5))

    def test_the_refusal_is_taken_by_its_bases_alone(self):
        for taken in (NoLink, EightError, ValueError):
            self.assertRaises(taken, linked, (0, 2, 5), (0, 4, -7))
        with self.assertRaises(NoLink) as caught:
            linked((0, 2, 5), (0, 4, -7))
        self.assertNotIsInstance(caught.exception, (NoBlock, NotStraight, NoRow, NoName))


class TestChained(unittest.TestCase):
    def test_one_side_is_itself(self):
        for side in ((0, 2, 5), (1, 1, -3), (0, 0, 7), (4, 5, 0), (11, 2, HUGE)):
            self.assertEqual(chained([side]), side)

    def test_two_sides(self):
        self.assertEqual(chained([(0, 2, 5), (3, 4, -7)]), (0, 4, -2))

    def test_more_sides(self):
        self.assertEqual(chained([(0, 2, 5), (3, 4, -7), (5, 5, 1)]), (0, 5, -1))
        self.assertEqual(chained([(0, 0, 1), (1, 1, 2), (0, 0, 4), (1, 3, 8)]), (0, 3, 15))

    def test_up_to_a_hundred_and_twenty_sides(self):
        for count in COUNTS:
            point = points(count)[-2]
            for length in (3, 10, 119, 120):
                sides = tight_chain(point, length, 2)
                whole = (sides[0][0], sides[-1][1], sum([side[2] for side in sides]))
                self.assertEqual(chained(sides), whole)

    def test_breaks_at_the_second_a_middle_and_the_last_side(self):
        flip = flips(4)
        for length in (2, 3, 120):
            for place in sorted({1, length // 2, length - 1}):
                sides = tight_chain((1, -2, 3, 0), length, 0)
                f, g, c = sides[place]
                for wrong in forms(4):
                    if wrong != f:
                        self.assertRaises(NoLink, chained, sides[:place] + [(wrong, g, c)] + sides[place + 1:])
                self.assertEqual(f, flip[sides[place - 1][1]])

    def test_no_sides_are_refused(self):
        self.assertRaises(NoLink, chained, [])
        self.assertRaises(EightError, chained, [])

    def test_who_keeps_all_sides_keeps_what_they_come_to(self):
        for count in COUNTS:
            for point in points(count):
                for length in (1, 2, 5, 120):
                    for slack in (0, 3, HUGE):
                        sides = tight_chain(point, length, slack)
                        self.assertTrue(all([keeps(point, side) for side in sides]))
                        self.assertIs(keeps(point, chained(sides)), True)

    def test_what_they_come_to_is_no_wider(self):
        for count in COUNTS:
            for point in points(count):
                f, g, c = chained(tight_chain(point, 7, 0))
                self.assertIs(keeps(point, (f, g, c - 1)), False)


class TestHalved(unittest.TestCase):
    def test_even_odd_zero_and_below(self):
        wanted = {8: 8, 7: 6, 1: 0, 0: 0, -1: -2, -2: -2, -3: -4, -8: -8, HUGE: HUGE - 1, -HUGE: -HUGE - 1}
        for f in forms(6):
            for c, even in wanted.items():
                self.assertEqual(halved((f, f, c)), (f, f, even))

    def test_two_unlike_forms_stay(self):
        for f, g in pairs(6):
            for c in NUMBERS:
                if f != g:
                    self.assertEqual(halved((f, g, c)), (f, g, c))

    def test_the_same_points_keep_both(self):
        for number in range(-6, 7):
            for f, g in pairs(2):
                for c in range(-13, 14):
                    point = (number, 2 - number)
                    self.assertIs(keeps(point, halved((f, g, c))), keeps(point, (f, g, c)))

    def test_twice_is_once(self):
        for f, g in pairs(6):
            for c in NUMBERS:
                once = halved((f, g, c))
                self.assertEqual(halved(once), once)
