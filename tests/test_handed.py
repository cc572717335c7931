"""Point 2: what is handed in stays, what is told is new, and of the kinds that are told."""

import copy
import unittest

from eightsides.errors import NoLink
from eightsides.forms import flipped, total, worth
from eightsides.questions import cases, holds, turned
from eightsides.sides import against, chained, halved, keeps, linked
from tests.samples import HUGE, WORDS

QUESTIONS = [(f, g, word, c) for f in range(4) for g in (None, 0, 1, 2, 3) for word in WORDS for c in (-HUGE, -1, 0, 5)]
SIDES = [(f, g, c) for f in range(4) for g in range(4) for c in (-HUGE, -3, 0, 8)]


class TestHandedIn(unittest.TestCase):
    def test_forms_stay(self):
        point = (3, -4)
        handed = [0, 3, 3, 1]
        total(point, handed)
        self.assertEqual(handed, [0, 3, 3, 1])
        self.assertEqual(point, (3, -4))

    def test_sides_stay(self):
        for handed in ([(0, 0, 5)], [(0, 2, 5), (3, 4, -7), (5, 5, 1)]):
            before = copy.deepcopy(handed)
            chained(handed)
            self.assertEqual(handed, before)

    def test_refused_sides_stay(self):
        handed = [(0, 2, 5), (3, 4, -7), (4, 5, 1)]
        self.assertRaises(NoLink, chained, handed)
        self.assertEqual(handed, [(0, 2, 5), (3, 4, -7), (4, 5, 1)])

    def test_what_is_done_behind_changes_no_answer(self):
        handed = [(0, 2, 5), (3, 4, -7)]
        told = chained(handed)
        handed[0] = (0, 2, 100)
        handed.append((5, 5, 1))
        self.assertEqual(told, (0, 4, -2))
        self.assertEqual(chained([(0, 2, 5), (3, 4, -7)]), (0, 4, -2))
        many = [0, 2]
        first = total((3, 4), many)
        many.append(0)
        self.assertEqual((first, total((3, 4), many), total((3, 4), [0, 2])), (7, 10, 7))


class TestTold(unittest.TestCase):
    def test_cases_are_the_askers_own(self):
        for question in QUESTIONS:
            first = cases(question)
            before = copy.deepcopy(first)
            changed = cases(question)
            for case in changed:
                case.append((0, 0, 0))
                case[0] = (1, 1, 1)
            changed.append([])
            self.assertEqual(first, before)
            self.assertEqual(cases(question), before)

    def test_the_lists_within_are_not_one_another(self):
        told = cases((0, None, "unlike", 5))
        told[0].clear()
        self.assertEqual(told, [[], [(1, 1, -12)]])

    def test_a_form_is_a_whole_number(self):
        for f in range(12):
            self.assertIs(type(flipped(f)), int)

    def test_worths_and_totals_are_whole_numbers(self):
        for point in ((0, 0), (1, -1), (HUGE, -HUGE)):
            for f in range(4):
                self.assertIs(type(worth(point, f)), int)
                for g in range(4):
                    self.assertIs(type(total(point, [f, g])), int)

    def test_sides_are_tuples_of_whole_numbers(self):
        for side in SIDES:
            after = (flipped(side[1]), 2, 7)
            for told in (against(side), halved(side), linked(side, after), chained([side]), chained([side, after])):
                self.check_side(told)

    def test_cases_are_lists_of_lists_of_sides(self):
        for question in QUESTIONS:
            told = cases(question)
            self.assertIs(type(told), list)
            for case in told:
                self.assertIs(type(case), list)
                for side in case:
                    self.check_side(side)

    def test_turned_questions_are_tuples(self):
        for question in QUESTIONS:
            told = turned(question)
            self.assertIs(type(told), tuple)
            self.assertEqual(len(told), 4)
            self.assertIs(type(told[0]), int)
            self.assertIn(type(told[1]), (int, type(None)))
            self.assertIs(type(told[2]), str)
            self.assertIs(type(told[3]), int)

    def test_truths_are_truths(self):
        for point in ((0, 0), (1, -1), (HUGE, -HUGE)):
            for side in SIDES:
                self.assertIs(type(keeps(point, side)), bool)
            for question in QUESTIONS:
                self.assertIs(type(holds(point, question)), bool)

    def check_side(self, side):
        self.assertIs(type(side), tuple)
        self.assertEqual([type(part) for part in side], [int, int, int])


class TestNothingElseCounts(unittest.TestCase):
    def test_asked_again_the_answers_are_the_same(self):
        first = [(turned(question), cases(question)) for question in QUESTIONS]
        again = [(turned(question), cases(question)) for question in reversed(QUESTIONS)]
        self.assertEqual(first, list(reversed(again)))
