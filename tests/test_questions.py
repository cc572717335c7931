"""Points 8 and 9: questions, turned ones, and their cases."""

import unittest

from eightsides.questions import cases, holds, turned
from eightsides.sides import keeps
from tests.samples import COUNTS, HUGE, NUMBERS, WORDS, forms, points, worths


def sums(count):
    """The pairs (f, g) of all questions, g None too."""
    return [(f, g) for f in forms(count) for g in [None] + list(forms(count))]


def sum_at(point, f, g):
    here = worths(point)
    return here[f] if g is None else here[f] + here[g]


def some_case_kept(point, question):
    return any([all([keeps(point, side) for side in case]) for case in cases(question)])


class TestHolds(unittest.TestCase):
    def check_word(self, word, below, at, above):
        """What is asked for where the sum is below the number, is the number, is above it."""
        for count in COUNTS:
            for point in points(count):
                for f, g in sums(count):
                    come_to = sum_at(point, f, g)
                    for more in (1, HUGE):
                        self.assertIs(holds(point, (f, g, word, come_to + more)), below)
                        self.assertIs(holds(point, (f, g, word, come_to - more)), above)
                    self.assertIs(holds(point, (f, g, word, come_to)), at)

    def test_most(self):
        self.check_word("most", True, True, False)

    def test_least(self):
        self.check_word("least", False, True, True)

    def test_same(self):
        self.check_word("same", False, True, False)

    def test_unlike(self):
        self.check_word("unlike", True, False, True)

    def test_a_form_alone_is_not_doubled(self):
        self.assertIs(holds((3,), (0, None, "same", 3)), True)
        self.assertIs(holds((3,), (0, None, "same", 6)), False)
        self.assertIs(holds((3,), (0, 0, "same", 6)), True)
        self.assertIs(holds((3,), (0, 0, "same", 3)), False)
        self.assertIs(holds((3,), (1, None, "most", -3)), True)

    def test_form_zero_as_g_is_a_form(self):
        self.assertIs(holds((3, 4), (2, 0, "same", 7)), True)
        self.assertIs(holds((3, 4), (2, 0, "same", 4)), False)

    def test_flips(self):
        self.assertIs(holds((3, 4), (0, 1, "same", 0)), True)
        self.assertIs(holds((3, 4), (3, 2, "least", 1)), False)


class TestTurned(unittest.TestCase):
    def test_as_told(self):
        for f, g in sums(6):
            for c in NUMBERS:
                self.assertEqual(turned((f, g, "most", c)), (f, g, "least", c + 1))
                self.assertEqual(turned((f, g, "least", c)), (f, g, "most", c - 1))
                self.assertEqual(turned((f, g, "same", c)), (f, g, "unlike", c))
                self.assertEqual(turned((f, g, "unlike", c)), (f, g, "same", c))

    def test_holds_just_where_the_question_does_not(self):
        for count in COUNTS:
            for point in points(count):
                for f, g in sums(count):
                    for word in WORDS:
                        for more in (-HUGE, -1, 0, 1):
                            question = (f, g, word, sum_at(point, f, g) + more)
                            self.assertIs(holds(point, turned(question)), not holds(point, question))

    def test_twice_is_the_question(self):
        for f, g in sums(6):
            for word in WORDS:
                for c in NUMBERS:
                    question = (f, g, word, c)
                    self.assertEqual(turned(turned(question)), question)


class TestCases(unittest.TestCase):
    def test_the_examples(self):
        self.assertEqual(cases((0, None, "most", 5)), [[(0, 0, 10)]])
        self.assertEqual(cases((0, None, "unlike", 5)), [[(0, 0, 8)], [(1, 1, -12)]])

    def test_two_forms(self):
        self.assertEqual(cases((0, 3, "most", 5)), [[(0, 3, 5)]])
        self.assertEqual(cases((0, 3, "least", 5)), [[(1, 2, -5)]])
        self.assertEqual(cases((0, 3, "same", 5)), [[(0, 3, 5), (1, 2, -5)]])
        self.assertEqual(cases((0, 3, "unlike", 5)), [[(0, 3, 4)], [(1, 2, -6)]])

    def test_the_forms_stay_in_their_order(self):
        self.assertEqual(cases((3, 0, "same", -5)), [[(3, 0, -5), (2, 1, 5)]])
        self.assertEqual(cases((3, 0, "unlike", -5)), [[(3, 0, -6)], [(2, 1, 4)]])

    def test_a_form_alone(self):
        self.assertEqual(cases((3, None, "most", -5)), [[(3, 3, -10)]])
        self.assertEqual(cases((3, None, "least", -5)), [[(2, 2, 10)]])
        self.assertEqual(cases((3, None, "same", -5)), [[(3, 3, -10), (2, 2, 10)]])
        self.assertEqual(cases((3, None, "unlike", -5)), [[(3, 3, -12)], [(2, 2, 8)]])

    def test_alike_forms_and_flips(self):
        self.assertEqual(cases((2, 2, "same", 5)), [[(2, 2, 5), (3, 3, -5)]])
        self.assertEqual(cases((2, 2, "unlike", 5)), [[(2, 2, 4)], [(3, 3, -6)]])
        self.assertEqual(cases((2, 3, "unlike", 0)), [[(2, 3, -1)], [(3, 2, -1)]])

    def test_zero(self):
        self.assertEqual(cases((0, None, "least", 0)), [[(1, 1, 0)]])
        self.assertEqual(cases((0, 2, "same", 0)), [[(0, 2, 0), (1, 3, 0)]])

    def test_three_hundred_figures(self):
        self.assertEqual(cases((0, None, "unlike", HUGE)), [[(0, 0, 2 * HUGE - 2)], [(1, 1, -2 * HUGE - 2)]])
        self.assertEqual(cases((0, 3, "least", -HUGE)), [[(1, 2, HUGE)]])

    def test_one_case_kept_just_where_the_question_holds(self):
        for count in COUNTS:
            for point in points(count):
                for f, g in sums(count):
                    for word in WORDS:
                        for more in (-HUGE, -1, 0, 1):
                            question = (f, g, word, sum_at(point, f, g) + more)
                            self.assertIs(some_case_kept(point, question), holds(point, question))

    def test_one_case_kept_on_a_field_of_small_points(self):
        for point in [(x, y) for x in range(-3, 4) for y in range(-3, 4)]:
            for f, g in sums(2):
                for word in WORDS:
                    for c in range(-7, 8):
                        question = (f, g, word, c)
                        self.assertIs(some_case_kept(point, question), holds(point, question))
