"""Points 22, 23 and 24: deeds done at points, images of shapes under them, and sources."""

import itertools
import unittest

from eightsides.closing import closed, wide
from eightsides.deeds import Ask, Deed, Go, Keep, Put
from eightsides.points import reaching
from tests.counting import (
    Dice, box, counted_shape, grown_shape, is_in, is_kept, kept, sum_of, thrown_sides,
)
from tests.doing import (
    all_made, amounts, answer_at, asks, changed, clamped, counted_amount, deed_of, made, questions, specs,
)
from tests.samples import COUNTS, HUGE, NUMBERS, WORDS, flips, forms, points
from tests.shapes import boxed_shapes, shapes_round_points

TURNS = ((1, 12), (2, 16), (3, 8), (4, 2), (5, 2), (6, 2))
FAR = (-HUGE ** 2, 0, 1, HUGE ** 2)


class TestKinds(unittest.TestCase):
    def test_all_stand_under_deed(self):
        for deed in (Go(), Keep((0, None, "most", 3)), Put(0, (None, None, 1)), Ask(0, None, None)):
            self.assertIsInstance(deed, Deed)

    def test_only_ask_asks(self):
        self.assertIs(Go().asks(), False)
        for word in WORDS:
            self.assertIs(Keep((0, None, word, 3)).asks(), False)
        self.assertIs(Put(0, (0, 1, 4)).asks(), False)
        for low, high in ((1, 2), (1, None), (None, 2), (None, None), (3, 3)):
            self.assertIs(Ask(0, low, high).asks(), True)


class TestDone(unittest.TestCase):
    def test_go_makes_the_same_point(self):
        for count in COUNTS:
            for point in points(count):
                for number in NUMBERS:
                    self.assertEqual(Go().done(point, number), point)

    def test_keep_makes_the_same_point_where_the_question_holds(self):
        self.assertEqual(Keep((0, None, "most", 5)).done((5, 1), 9), (5, 1))
        self.assertIsNone(Keep((0, None, "most", 5)).done((6, 1), 5))
        self.assertEqual(Keep((0, 2, "unlike", 5)).done((5, 1), 0), (5, 1))
        self.assertIsNone(Keep((0, 2, "unlike", 6)).done((5, 1), 0))
        dice = Dice(141)
        seen = []
        for count in COUNTS:
            for point in points(count)[::2]:
                for question in questions(dice, point, 1):
                    wanted = point if answer_at(point, question) else None
                    for number in (0, -HUGE, question[3]):
                        self.assertEqual(Keep(question).done(point, number), wanted)
                    seen.append((question[2], wanted is None))
        self.assertEqual(len(set(seen)), 8)

    def test_put_makes_the_point_with_the_amount(self):
        self.assertEqual(Put(1, (0, 2, 5)).done((3, 4), 0), (3, 12))
        self.assertEqual(Put(0, (1, 1, 0)).done((3, 4), 8), (-6, 4))
        self.assertEqual(Put(1, (None, None, -2)).done((3, 4), 8), (3, -2))
        dice = Dice(142)
        for count in COUNTS:
            for point in points(count)[::2]:
                for k in range(count):
                    for amount in amounts(dice, count, k, -HUGE, HUGE):
                        told = Put(k, amount).done(point, HUGE)
                        self.assertIs(type(told), tuple)
                        self.assertEqual(told, changed(point, k, counted_amount(point, amount)))
                        self.assertEqual(Put(k, amount).done(point, -3), told)

    def test_ask_makes_the_point_with_the_asked_number_between_its_ends(self):
        point = (3, 4, 5)
        both = Ask(1, -2, 6)
        self.assertEqual([both.done(point, number)[1] for number in (-HUGE, -3, -2, -1, 0, 5, 6, 7, HUGE)],
                         [-2, -2, -2, -1, 0, 5, 6, 6, 6])
        self.assertEqual([Ask(1, 6, None).done(point, number)[1] for number in (-7, 5, 6, 7, HUGE)], [6, 6, 6, 7, HUGE])
        self.assertEqual([Ask(1, None, 6).done(point, number)[1] for number in (-HUGE, 5, 6, 7)], [-HUGE, 5, 6, 6])
        self.assertEqual([Ask(1, 0, 0).done(point, number)[1] for number in (-1, 0, 1)], [0, 0, 0])
        self.assertEqual([Ask(1, 0, None).done(point, number)[1] for number in (-1, 0, 1)], [0, 0, 1])
        self.assertEqual([Ask(1, None, 0).done(point, number)[1] for number in (-1, 0, 1)], [-1, 0, 0])
        self.assertEqual(Ask(1, None, None).done(point, -HUGE), (3, -HUGE, 5))

    def test_ask_at_each_name(self):
        dice = Dice(143)
        for count in COUNTS:
            for point in points(count)[::2]:
                for k in range(count):
                    for spec in asks(dice, k, -HUGE, HUGE):
                        ends = [end for end in spec[2:] if end is not None]
                        for number in [0, HUGE, -HUGE] + [end + step for end in ends for step in (-1, 0, 1)]:
                            told = deed_of(spec).done(point, number)
                            self.assertIs(type(told), tuple)
                            self.assertEqual(told, changed(point, k, clamped(number, spec[2], spec[3])))


class TestImage(unittest.TestCase):
    def test_as_told(self):
        shape = closed(2, [(0, 0, 6), (1, 1, 0), (0, 3, 0), (1, 2, 0)])
        self.assertEqual(Go().image(shape), shape)
        self.assertEqual(Keep((2, None, "least", 2)).image(shape), closed(2, [(0, 0, 6), (1, 1, -4), (0, 3, 0), (1, 2, 0)]))
        self.assertEqual(Put(1, (0, 0, 1)).image(shape)[2], [10, 4, 14, 0])
        self.assertEqual(Ask(1, 2, 9).image(shape), closed(2, [(0, 0, 6), (1, 1, 0), (2, 2, 18), (3, 3, -4)]))

    def test_of_the_empty_shape_the_empty_one(self):
        dice = Dice(151)
        for count in COUNTS:
            for spec in specs(dice, points(count)[3], 3):
                self.assertIsNone(deed_of(spec).image(None), spec)

    def test_of_a_question_that_holds_at_no_point_the_empty_one(self):
        shape = closed(2, [(0, 0, 6), (1, 1, 0), (2, 2, 4), (3, 3, -4)])
        for question in (
            (0, None, "most", -1), (0, None, "least", 4), (0, None, "same", 4), (2, None, "unlike", 2),
            (0, 2, "most", 1), (0, 2, "least", 6), (1, 3, "same", -1), (2, 2, "unlike", 4), (2, 2, "same", 3),
            (0, 0, "same", 3), (0, 1, "least", 1), (0, 1, "same", -1), (1, 0, "unlike", 0), (3, 2, "most", -1),
        ):
            self.assertIsNone(Keep(question).image(shape), question)

    def test_of_a_question_that_holds_at_all_points_the_same_shape(self):
        shape = closed(2, [(0, 0, 6), (1, 1, 0), (2, 2, 4), (3, 3, -4)])
        for question in (
            (0, None, "most", 3), (0, None, "least", 0), (2, None, "same", 2), (0, None, "unlike", 4),
            (0, 2, "most", 5), (0, 2, "least", 2), (3, 3, "same", -4), (0, 0, "unlike", 3),
            (0, 1, "least", 0), (0, 1, "same", 0), (1, 0, "unlike", 1), (3, 2, "most", 0),
        ):
            self.assertEqual(Keep(question).image(shape), shape, question)

    def test_unlike_with_points_on_both_sides_of_the_number(self):
        shape = closed(1, [(0, 0, 6), (1, 1, 6)])
        self.assertEqual(Keep((0, None, "unlike", 0)).image(shape), shape)
        self.assertEqual(Keep((0, None, "unlike", 3)).image(shape), [[4, 0], [0, 6]])
        self.assertEqual(Keep((0, None, "unlike", -3)).image(shape), [[6, 0], [0, 4]])
        # Between the sides x + y <= -1 and x + y >= 1 of the square the corners of the sum 0 fall out.
        square = closed(2, [(0, 0, 2), (1, 1, 2), (2, 2, 2), (3, 3, 2)])
        wanted = counted_shape([point for point in box(2, 1) if sum(point) != 0])
        self.assertEqual(Keep((0, 2, "unlike", 0)).image(square), wanted)
        self.assertEqual((wanted[0][3], square[0][3]), (1, 2))
        self.assertEqual(Keep((0, None, "unlike", -HUGE)).image(wide(2)), wide(2))

    def test_counted_in_small_boxes(self):
        dice = Dice(152)
        for count, inside, shape in boxed_shapes(dice, TURNS):
            for spec in specs(dice, points(count)[0], 3):
                wanted = grown_shape(all_made(spec, inside, 9), all_made(spec, inside, 10))
                self.assertEqual(deed_of(spec).image(shape), wanted, (shape, spec))

    def test_without_bounds_counted_in_growing_boxes(self):
        dice = Dice(153)
        near, far = box(2, 13), box(2, 16)
        for turn in range(12):
            sides = thrown_sides(dice, 2, dice.below(6), -1, 2)
            inside, wider = kept(near, sides), kept(far, sides)
            for spec in specs(dice, (0, 0), 3):
                wanted = grown_shape(all_made(spec, inside, 13), all_made(spec, wider, 16))
                self.assertEqual(deed_of(spec).image(closed(2, sides)), wanted, (sides, spec))

    def test_of_one_point(self):
        dice = Dice(154)
        for count in COUNTS:
            for point in points(count)[::3]:
                for spec in specs(dice, point, 1):
                    if spec[0] != "ask":
                        after = made(spec, point, 0)
                        wanted = counted_shape([] if after is None else [after])
                        self.assertEqual(deed_of(spec).image(counted_shape([point])), wanted)

    def test_points_that_are_made_lie_in_it(self):
        dice = Dice(155)
        for count, point, sides, shape in shapes_round_points(dice, 4):
            further = [reaching(shape, [f], -8) or point for f in forms(count)]
            for spec in specs(dice, point, 3):
                image = deed_of(spec).image(shape)
                for start in [point] + further:
                    for number in (0, HUGE, -HUGE, start[0]):
                        after = made(spec, start, number)
                        if after is not None:
                            self.assertTrue(is_in(image, after), (sides, spec, start))


class TestSource(unittest.TestCase):
    def check(self, spec, sides, shape, f, g, number):
        told = deed_of(spec).source(shape, f, g, number)
        where = (spec, sides, f, g, number, told)
        self.assertIs(type(told), tuple, where)
        point, asked_number = told
        self.assertIs(type(point), tuple, where)
        self.assertEqual([type(part) for part in point], [int] * (len(shape) // 2), where)
        self.assertIs(type(asked_number), int, where)
        self.assertTrue(is_kept(point, sides), where)
        after = made(spec, point, asked_number)
        self.assertIsNotNone(after, where)
        self.assertEqual(deed_of(spec).done(point, asked_number), after, where)
        self.assertGreaterEqual(sum_of(after, [f, g]), number, where)
        return point

    def check_against(self, wanted, spec, sides, shape, f, g):
        """Sources for numbers up to the greatest in the wanted image, and for none above."""
        if wanted is None:
            self.check_none(spec, shape, f, g)
            return
        most = wanted[f][g]
        for number in FAR if most is None else (most, most - 1, most - HUGE):
            self.check(spec, sides, shape, f, g, number)
        for number in () if most is None else (most + 1, most + HUGE):
            self.assertIsNone(deed_of(spec).source(shape, f, g, number), (spec, sides, f, g, most))

    def check_none(self, spec, shape, f, g):
        for number in FAR:
            self.assertIsNone(deed_of(spec).source(shape, f, g, number), (spec, shape, f, g))

    def thrown_pairs(self, dice, spec, count):
        """Forms alike, flips and neither, of the deed's own name and of others."""
        f, g = dice.below(2 * count), dice.below(2 * count)
        k = spec[1] if spec[0] in ("put", "ask") else dice.below(count)
        return [(2 * k, 2 * k), (2 * k + 1, 2 * k + 1), (2 * k, 2 * k + 1), (2 * k, g), (f, 2 * k + 1),
                (f, g), (f, f), (f, flips(count)[f])]

    def test_none_of_the_empty_shape(self):
        dice = Dice(161)
        for count in COUNTS:
            for spec in specs(dice, points(count)[4], 3):
                for f, g in self.thrown_pairs(dice, spec, count):
                    self.check_none(spec, None, f, g)

    def test_none_of_a_question_that_holds_at_no_point(self):
        shape = closed(2, [(0, 0, 6), (1, 1, 0), (2, 2, 4), (3, 3, -4)])
        for question in ((0, None, "least", 4), (2, None, "unlike", 2), (0, 0, "same", 3), (1, 0, "unlike", 0)):
            for f, g in itertools.product(range(4), repeat=2):
                self.check_none(("keep", question), shape, f, g)

    def test_all_forms_counted_in_small_boxes(self):
        dice = Dice(162)
        sides = [(0, 0, 8), (1, 1, 8), (2, 2, 8), (3, 3, 8)]
        for turn in range(4):
            some = sides + thrown_sides(dice, 2, 1 + turn, 0, 4)
            inside = kept(box(2, 4), some)
            for spec in specs(dice, (0, 0), 3):
                wanted = grown_shape(all_made(spec, inside, 9), all_made(spec, inside, 10))
                for f, g in itertools.product(range(4), repeat=2):
                    self.check_against(wanted, spec, some, closed(2, some), f, g)

    def test_counted_in_small_boxes(self):
        dice = Dice(163)
        for count, inside, shape in boxed_shapes(dice, ((1, 8), (2, 8), (3, 5), (4, 2), (5, 2), (6, 2))):
            for spec in specs(dice, points(count)[0], 3):
                wanted = grown_shape(all_made(spec, inside, 9), all_made(spec, inside, 10))
                for f, g in self.thrown_pairs(dice, spec, count):
                    if wanted is None:
                        self.check_none(spec, shape, f, g)
                    elif wanted[f][g] is None:
                        self.assertIn(self.check(spec, [], shape, f, g, HUGE), inside)
                    else:
                        self.assertIn(self.check(spec, [], shape, f, g, wanted[f][g]), inside)
                        self.assertIsNone(deed_of(spec).source(shape, f, g, wanted[f][g] + 1))

    def test_without_bounds_counted_in_growing_boxes(self):
        dice = Dice(164)
        near, far = box(2, 13), box(2, 16)
        for turn in range(5):
            sides = thrown_sides(dice, 2, 1 + dice.below(4), -1, 2)
            inside, wider = kept(near, sides), kept(far, sides)
            for spec in specs(dice, (0, 0), 3):
                wanted = grown_shape(all_made(spec, inside, 13), all_made(spec, wider, 16))
                for f, g in self.thrown_pairs(dice, spec, 2):
                    self.check_against(wanted, spec, sides, closed(2, sides), f, g)

    def test_each_number_of_the_image_is_met(self):
        dice = Dice(165)
        for count, point, sides, shape in shapes_round_points(dice, 2):
            for spec in specs(dice, point, 3):
                image = deed_of(spec).image(shape)
                for f, g in self.thrown_pairs(dice, spec, count) if image is not None else []:
                    self.check(spec, sides, shape, f, g, HUGE ** 2 if image[f][g] is None else image[f][g])
                    if image[f][g] is not None:
                        self.assertIsNone(deed_of(spec).source(shape, f, g, image[f][g] + 1))

    def test_between_the_cases_of_a_question(self):
        # Not the image alone counts: x = 0 lies in it, but the question does not hold there.
        sides = [(0, 0, 6), (1, 1, 6)]
        for number in range(-6, 7):
            self.check(("keep", (0, None, "unlike", 0)), sides, closed(1, sides), 0, 0, number)
            self.check(("keep", (0, None, "unlike", 0)), sides, closed(1, sides), 1, 1, number)
        square = [(f, f, 2) for f in range(4)]
        for f, g in itertools.product(range(4), repeat=2):
            for number in range(-2, 2):
                if f // 2 != g // 2:
                    self.check(("keep", (0, 2, "unlike", 0)), square, closed(2, square), f, g, number)

    def test_twice_a_name_and_an_odd_number(self):
        sides = [(0, 0, 8), (1, 1, 4), (0, 3, 0), (1, 2, 0)]
        for spec in (("put", 1, (0, None, 1)), ("put", 1, (0, 2, 1)), ("put", 0, (1, None, -3)), ("ask", 1, -4, 7)):
            shape = closed(2, sides)
            for f in range(4):
                image = deed_of(spec).image(shape)
                self.assertEqual(image[f][f] % 2, 0)
                for less in range(6):
                    self.check(spec, sides, shape, f, f, image[f][f] - less)


if __name__ == "__main__":
    unittest.main()
