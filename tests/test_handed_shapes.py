"""Points 2 and 3 for shapes, rings and points: what is handed in stays, and what is told is the asker's own."""

import copy
import unittest

from eightsides.closing import closed, held, told_sides, wide
from eightsides.points import greatest, lies, reaching, some_point
from eightsides.rings import ring
from tests.counting import Dice, sides_round, thrown_sides
from tests.samples import COUNTS, HUGE, points
from tests.shapes import spoil

CLASHING = (
    [(0, 1, -1)],
    [(0, 0, 5), (1, 1, -5)],
    [(0, 2, 1), (1, 3, -1), (0, 3, 0), (1, 2, 0)],
    [(0, 3, -1), (2, 1, 0), (0, 0, 8)],
)


def lists():
    """Counts with lists of sides that some points keep, no sides among them, and with lists that none keeps."""
    dice = Dice(61)
    found = [(2, list(sides)) for sides in CLASHING]
    for count in COUNTS:
        found.append((count, []))
        for point in points(count)[4:7]:
            found.append((count, sides_round(dice, point, 3 * count, 4)))
        found.append((count, thrown_sides(dice, count, 2, -HUGE, HUGE)))
    return found


def shapes():
    made = [(count, closed(count, sides)) for count, sides in lists()]
    return [(count, shape) for count, shape in made if shape is not None]


class TestHandedIn(unittest.TestCase):
    def test_sides_stay(self):
        for count, sides in lists():
            before = copy.deepcopy(sides)
            closed(count, sides)
            ring(count, sides)
            self.assertEqual(sides, before)

    def test_tables_stay(self):
        for count, shape in shapes():
            before = copy.deepcopy(shape)
            for side in ((0, 0, 4), (1, 1, -HUGE), (0, 1, 0), (1, 0, -1), (0, 2 * count - 1, 3)):
                held(shape, side)
            told_sides(shape)
            lies(shape, (1,) * count)
            some_point(shape)
            for forms in ([], [0], [0, 1], [1, 0, 1], [0, 0, 2 * count - 1], [0, 2 * count - 2, count]):
                for number in (-5, 0, HUGE):
                    handed = list(forms)
                    greatest(shape, handed)
                    reaching(shape, handed, number)
                    self.assertEqual(handed, forms)
            self.assertEqual(shape, before)

    def test_what_is_done_behind_to_sides_changes_no_answer(self):
        for count, sides in lists():
            before = copy.deepcopy(sides)
            shape, told = closed(count, sides), ring(count, sides)
            kept_shape, kept_ring = copy.deepcopy(shape), copy.deepcopy(told)
            sides.append((0, 0, -HUGE))
            sides[0] = (0, 1, -1)
            self.assertEqual((shape, told), (kept_shape, kept_ring))
            self.assertEqual((closed(count, before), ring(count, before)), (kept_shape, kept_ring))

    def test_what_is_done_behind_to_a_table_changes_no_answer(self):
        for count, shape in shapes():
            before = copy.deepcopy(shape)
            told = held(shape, (0, 0, HUGE)), told_sides(shape), some_point(shape), reaching(shape, [0, 1], 0)
            kept = copy.deepcopy(told)
            spoil(shape)
            self.assertEqual(told, kept)
            again = held(before, (0, 0, HUGE)), told_sides(before), some_point(before), reaching(before, [0, 1], 0)
            self.assertEqual(again, kept)


class TestTold(unittest.TestCase):
    def check_own_rows(self, table, other):
        rows = [id(row) for row in table]
        self.assertEqual(len(set(rows)), len(rows))
        self.assertIsNot(table, other)
        self.assertEqual(set(rows) & {id(row) for row in other}, set())

    def test_wide_shapes(self):
        for count in COUNTS:
            first, other = wide(count), wide(count)
            before = copy.deepcopy(first)
            self.check_own_rows(first, other)
            spoil(other)
            self.assertEqual(first, before)
            self.assertEqual(wide(count), before)
            self.assertEqual(closed(count, []), before)

    def test_closed_shapes(self):
        for count, sides in lists():
            first, other = closed(count, sides), closed(count, sides)
            if first is not None:
                before = copy.deepcopy(first)
                self.check_own_rows(first, other)
                spoil(other)
                self.assertEqual(first, before)
                self.assertEqual(closed(count, sides), before)

    def test_held_shapes(self):
        for count, shape in shapes():
            before = copy.deepcopy(shape)
            for side in ((0, 0, 5 * HUGE), (1, 1, 2 * HUGE), (0, 1, 0), (0, 1, 3)):
                told = held(shape, side)
                if told is not None:
                    kept = copy.deepcopy(told)
                    self.check_own_rows(told, shape)
                    spoil(told)
                    self.assertEqual(shape, before)
                    self.assertEqual(held(shape, side), kept)

    def test_told_sides(self):
        for count, shape in shapes():
            first = told_sides(shape)
            before = list(first)
            told_sides(shape).append((0, 0, 0))
            self.assertEqual(first, before)
            self.assertEqual(told_sides(shape), before)
            self.assertIs(type(first), list)
            for side in first:
                self.assertIs(type(side), tuple)
                self.assertEqual([type(part) for part in side], [int, int, int])

    def test_rings(self):
        for sides in CLASHING:
            first = ring(2, sides)
            before = copy.deepcopy(first)
            other = ring(2, sides)
            self.assertIsNot(other[0], other[1])
            other[0].append((0, 0, 0))
            self.assertEqual(other[1], before[1])
            other[1].append((0, 0, 0))
            self.assertEqual(first, before)
            self.assertEqual(ring(2, sides), before)

    def test_tables_are_lists_of_lists(self):
        for count, shape in shapes():
            self.assertIs(type(shape), list)
            for row in shape:
                self.assertIs(type(row), list)
                for entry in row:
                    self.assertIn(type(entry), (int, type(None)))

    def test_truths_and_numbers(self):
        for count, shape in shapes():
            self.assertIs(type(lies(shape, (3,) * count)), bool)
            for forms in ([], [0], [1, 1], [0, 1, 0]):
                self.assertIn(type(greatest(shape, forms)), (int, type(None)))


class TestNothingElseCounts(unittest.TestCase):
    def test_asked_again_the_answers_are_the_same(self):
        first = [self.answers(count, sides) for count, sides in lists()]
        again = [self.answers(count, sides) for count, sides in reversed(lists())]
        self.assertEqual(first, list(reversed(again)))

    def answers(self, count, sides):
        shape = closed(count, sides)
        return shape, ring(count, sides), some_point(shape), reaching(shape, [0, 0, 1], -4)


if __name__ == "__main__":
    unittest.main()
