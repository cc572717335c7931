"""What the shapes share about entries: None is above all numbers."""

import unittest

from eightsides.entries import above, below, greater, half, least, lesser, summed
from tests.samples import HUGE


class TestEntries(unittest.TestCase):
    def test_below(self):
        self.assertIs(below(-1, 0), True)
        self.assertIs(below(0, 0), False)
        self.assertIs(below(HUGE, 0), False)
        self.assertIs(below(None, HUGE), False)

    def test_above(self):
        self.assertEqual([above(entry, 4) for entry in (3, 4, 5, HUGE, None)], [False, False, True, True, True])
        self.assertEqual([above(entry, None) for entry in (0, HUGE, None)], [False, False, False])

    def test_lesser(self):
        for one, other, wanted in ((3, 4, 3), (4, 3, 3), (-HUGE, 0, -HUGE), (None, HUGE, HUGE), (0, None, 0)):
            self.assertEqual(lesser(one, other), wanted)
        self.assertIsNone(lesser(None, None))

    def test_greater(self):
        for one, other, wanted in ((3, 4, 4), (4, 3, 4), (-HUGE, 0, 0), (-1, -1, -1)):
            self.assertEqual(greater(one, other), wanted)
        for one, other in ((None, HUGE), (-HUGE, None), (None, None)):
            self.assertIsNone(greater(one, other))

    def test_least(self):
        self.assertEqual(least([4, None, -2, 0]), -2)
        self.assertEqual(least([None, 0]), 0)
        self.assertIsNone(least([None, None]))
        self.assertIsNone(least([]))

    def test_summed(self):
        self.assertEqual(summed(HUGE, -1), HUGE - 1)
        self.assertEqual(summed(0, 0), 0)
        for one, other in ((None, 0), (0, None), (None, None)):
            self.assertIsNone(summed(one, other))

    def test_half_is_rounded_down(self):
        self.assertEqual([half(entry) for entry in (5, 4, 1, 0, -1, -2, -3)], [2, 2, 0, 0, -1, -1, -2])
        self.assertEqual(half(-HUGE), -(10 ** 300) // 2)
        self.assertIsNone(half(None))
