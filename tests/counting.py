"""Shapes, points and rings found or checked without the package: by counting all points, or leg by leg."""

import itertools

from tests.samples import flips, worths

# How far from 0 the names go in the small boxes of that many names, so that all points are soon counted.
SIZES = {1: 6, 2: 4, 3: 2, 4: 1, 5: 1, 6: 1}


class Dice:
    """Numbers that look thrown, but are the same each time."""

    def __init__(self, seed):
        self.state = seed

    def below(self, bound):
        """A number from 0 on, below the bound, a bound of three hundred figures among them."""
        thrown = 0
        for turn in range(bound.bit_length() // 32 + 1):
            self.state = (self.state * 6364136223846793005 + 1442695040888963407) % 2 ** 64
            thrown = thrown * 2 ** 32 + (self.state >> 32)
        return thrown % bound

    def between(self, low, high):
        return low + self.below(high - low + 1)

    def shuffled(self, things):
        left = list(things)
        found = []
        while left:
            found.append(left.pop(self.below(len(left))))
        return found


def box(count, size):
    """All points whose numbers are not below -size and not above size."""
    return list(itertools.product(range(-size, size + 1), repeat=count))


def is_kept(point, sides):
    here = worths(point)
    return all(here[f] + here[g] <= c for f, g, c in sides)


def kept(points, sides):
    """Those of the points that keep the sides."""
    return [point for point in points if is_kept(point, sides)]


def sum_of(point, forms):
    here = worths(point)
    return sum([here[f] for f in forms])


def counted_shape(points):
    """The shape of a list of points, None where there is none."""
    if not points:
        return None
    all_worths = [worths(point) for point in points]
    forms = range(len(all_worths[0]))
    return [[max([here[f] + here[g] for here in all_worths]) for g in forms] for f in forms]


def grown_shape(near, far):
    """The shape of points without end, of those in a box and of those in a wider one: where a sum grows with the
    box, there is no greatest."""
    small, great = counted_shape(near), counted_shape(far)
    if small is None:
        return None
    rows = [zip(one, other) for one, other in zip(small, great)]
    return [[one if one == other else None for one, other in row] for row in rows]


def is_in(table, point):
    """Whether a point lies in a table."""
    if table is None:
        return False
    here = worths(point)
    entries = [(f, g, entry) for f, row in enumerate(table) for g, entry in enumerate(row) if entry is not None]
    return all(here[f] + here[g] <= entry for f, g, entry in entries)


def thrown_sides(dice, count, many, low, high):
    """Sides of any two forms that are no flips."""
    flip = flips(count)
    sides = []
    while len(sides) < many:
        f, g = dice.below(2 * count), dice.below(2 * count)
        if g != flip[f]:
            sides.append((f, g, dice.between(low, high)))
    return sides


def box_sides(count, size):
    """Sides that keep each name within the box of that size, some with an odd number more."""
    return [(f, f, 2 * size + f // 2 % 2) for f in range(2 * count)]


def boxed_sides(dice, count):
    """Sides that some points of the small box may keep, and the sides of the box with them."""
    size = SIZES[count]
    some = thrown_sides(dice, count, dice.below(2 * count + 2), -size // 2, size + 2)
    return dice.shuffled(some + box_sides(count, size))


def boxed_points(count, sides):
    """All points of the small box that keep the sides."""
    return kept(box(count, SIZES[count]), sides)


def sides_round(dice, point, many, slack):
    """Sides that the point keeps with no more to spare than the slack."""
    here = worths(point)
    sides = thrown_sides(dice, len(point), many, 0, slack)
    return [(f, g, here[f] + here[g] + c) for f, g, c in sides]


def walked(test, count, sides, legs):
    """Walks a list of legs and tells from where it leads, to where, and its sum."""
    test.assertIs(type(legs), list)
    test.assertTrue(1 <= len(legs) <= 2 * count, legs)
    flip = flips(count)
    come_to = 0
    for number, leg in enumerate(legs):
        test.assertIs(type(leg), tuple)
        test.assertEqual([type(part) for part in leg], [int, int, int])
        place, f, g = leg
        test.assertTrue(0 <= place < len(sides), leg)
        test.assertIn(sides[place][:2], ((f, g), (g, f)))
        if number > 0:
            test.assertEqual(f, flip[legs[number - 1][2]], legs)
        come_to += sides[place][2]
    return legs[0][1], legs[-1][2], come_to


def check_ring(test, count, sides, told):
    """Fails unless what is told is a ring of the sides."""
    test.assertIs(type(told), tuple)
    first, second = told
    flip = flips(count)
    start, end, come_to = walked(test, count, sides, first)
    if second == []:
        test.assertIs(type(second), list)
        test.assertEqual(end, flip[start])
        test.assertLess(come_to, 0)
        return
    other_start, other_end, other_come_to = walked(test, count, sides, second)
    test.assertEqual((end, other_start, other_end), (start, flip[start], flip[start]))
    test.assertLess(come_to // 2 + other_come_to // 2, 0)
