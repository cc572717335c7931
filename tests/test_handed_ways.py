"""Points 2 and 3 for steps, climbs, blocks and ways: what is handed in stays, what is told is the asker's own."""

import copy
import unittest

from eightsides.blocks import partners
from eightsides.climbs import Climb
from eightsides.closing import closed, told_sides, wide
from eightsides.errors import NoBlock
from eightsides.steps import step_over, widened
from eightsides.ways import ways
from tests.counting import Dice, counted_shape, is_in
from tests.programs import programs, rows_of
from tests.samples import COUNTS, HUGE, points
from tests.shapes import open_shapes, spoil
from tests.widening import ALL_STEPS, thrown_table


def made_ways(rows, count):
    """The ways of the rows, each with what its deed makes of some points and of a shape."""
    shape = counted_shape(points(count)[:4])
    found = []
    for at, to, deed in ways(rows):
        done = [deed.done(point, 4) for point in points(count)[:6]]
        found.append((at, to, deed.asks(), done, deed.image(shape), deed.source(shape, 0, 1, 0)))
    return found


def climbed(count, steps, patience, shapes):
    """What a climb tells behind each of the shapes that it takes."""
    climb = Climb(count, steps, patience)
    found = [(None, climb.shape(), climb.rises())]
    for shape in shapes:
        rose = climb.take(shape)
        found.append((rose, climb.shape(), climb.rises()))
    return found


def growing(count):
    """Shapes each of which makes a climb rise for a while."""
    return [counted_shape([(0,) * count, (far,) * (count - 1) + (-far - 1,)]) for far in (0, 1, 3, 9, 30, HUGE)]


class TestSteps(unittest.TestCase):
    def test_steps_tables_and_shapes_stay(self):
        dice = Dice(241)
        for count, sides, shape in open_shapes(dice, 3):
            for steps in ALL_STEPS:
                table = thrown_table(dice, count, 9)
                before = copy.deepcopy((table, shape, steps))
                widened(table, shape, steps)
                step_over(steps, 0, 0, 3)
                step_over(steps, 0, 2 * count - 1, None)
                self.assertEqual((table, shape, steps), before)

    def test_the_widened_table_is_new_in_each_of_its_lists(self):
        dice = Dice(242)
        for count, sides, shape in open_shapes(dice, 3):
            for table in (thrown_table(dice, count, 9), wide(count), shape):
                for steps in ([], [4]):
                    lists = [table, *table] + ([] if shape is table else [shape, *shape])
                    for told in (widened(table, shape, steps), widened(table, shape, steps)):
                        self.assertIs(type(told), list)
                        self.assertEqual({type(row) for row in told}, {list})
                        lists.extend([told, *told])
                    self.assertEqual(len({id(some) for some in lists}), len(lists))

    def test_what_is_done_to_a_table_changes_no_later_answer_and_nothing_handed_in(self):
        dice = Dice(243)
        for count, sides, shape in open_shapes(dice, 3):
            table, steps = thrown_table(dice, count, 9), [-3, 0, 8]
            before = copy.deepcopy((table, shape, steps))
            told = widened(table, shape, steps)
            wanted = copy.deepcopy(told)
            spoil(told)
            self.assertEqual((table, shape, steps), before)
            self.assertEqual(widened(table, shape, steps), wanted)

    def test_what_is_done_behind_to_what_was_handed_in_changes_no_answer(self):
        dice = Dice(244)
        for count, sides, shape in open_shapes(dice, 3):
            table, own, steps = thrown_table(dice, count, 9), copy.deepcopy(shape), [-3, 0, 8]
            before = copy.deepcopy((table, own, steps))
            told = widened(table, own, steps)
            wanted = copy.deepcopy(told)
            spoil(table)
            spoil(own)
            steps.clear()
            self.assertEqual(told, wanted)
            self.assertEqual(widened(*before), wanted)


class TestClimbs(unittest.TestCase):
    def test_what_is_handed_in_stays(self):
        for count in COUNTS:
            for steps in ALL_STEPS:
                shapes = growing(count)
                before = copy.deepcopy((shapes, steps))
                climbed(count, steps, 4, shapes)
                self.assertEqual((shapes, steps), before)

    def test_the_shape_told_is_new_each_time(self):
        for count in COUNTS:
            for patience in (1, 2, 4, 20):
                climb, lists = Climb(count, [2, 10], patience), []
                for shape in growing(count):
                    climb.take(shape)
                    lists.extend([shape, *shape])
                    for told in (climb.shape(), climb.shape()):
                        lists.extend([told, *told])
                self.assertEqual(len({id(some) for some in lists}), len(lists))

    def test_what_is_done_to_the_shape_told_changes_no_later_answer(self):
        for count in COUNTS:
            for patience in (1, 2, 4, 20):
                wanted = climbed(count, [2, 10], patience, growing(count))
                climb, found = Climb(count, [2, 10], patience), [(None, None, 0)]
                for shape in growing(count):
                    rose = climb.take(shape)
                    spoil(climb.shape())
                    found.append((rose, climb.shape(), climb.rises()))
                    spoil(climb.shape())
                self.assertEqual(found, wanted)

    def test_what_is_done_behind_to_the_steps_and_the_taken_shapes_changes_no_answer(self):
        for count in COUNTS:
            for patience in (1, 2, 4, 20):
                wanted = climbed(count, [2, 10], patience, growing(count))
                steps = [2, 10]
                climb, found = Climb(count, steps, patience), [(None, None, 0)]
                steps[0] = 7
                steps.append(50)
                for shape in growing(count):
                    rose = climb.take(shape)
                    spoil(shape)
                    found.append((rose, climb.shape(), climb.rises()))
                self.assertEqual(found, wanted)

    def test_a_shape_told_before_stays_when_the_climb_rises(self):
        climb, told = Climb(2, [2, 10], 5), []
        for shape in growing(2):
            climb.take(shape)
            told.append(climb.shape())
        self.assertEqual(told, [shape for rose, shape, rises in climbed(2, [2, 10], 5, growing(2))][1:])

    def test_two_climbs_side_by_side_do_not_touch_each_other(self):
        steps = [2, 10]
        for count in COUNTS:
            shapes, others = growing(count), list(reversed(growing(count)))
            wanted, other_wanted = climbed(count, steps, 4, shapes), climbed(count, steps, 6, others)
            one, other = Climb(count, steps, 4), Climb(count, steps, 6)
            found, other_found = [(None, None, 0)], [(None, None, 0)]
            for shape, other_shape in zip(shapes, others):
                rose, other_rose = one.take(shape), other.take(other_shape)
                found.append((rose, one.shape(), one.rises()))
                other_found.append((other_rose, other.shape(), other.rises()))
            self.assertEqual((found, other_found), (wanted, other_wanted))

    def test_two_climbs_that_take_the_same_lists(self):
        steps, shapes = [2, 10], growing(3)
        one, other = Climb(3, steps, 8), Climb(3, steps, 8)
        for shape in shapes[:3]:
            one.take(shape)
            other.take(shape)
        spoil(one.shape())
        one.take(shapes[5])
        self.assertEqual((other.shape(), other.rises()), climbed(3, steps, 8, shapes[:3])[-1][1:])

    def test_a_shape_taken_is_told_again_by_an_equal_table(self):
        for count, sides, shape in open_shapes(Dice(245), 4):
            climb = Climb(count, [5], 2)
            climb.take(shape)
            told = climb.shape()
            self.assertEqual((told, closed(count, told_sides(told))), (shape, shape))
            self.assertIs(climb.take(told), False)

    def test_numbers_with_more_figures_than_those_handed_in(self):
        climb, point = Climb(2, [-HUGE, 0, HUGE], 20), (HUGE, -HUGE)
        for turn in range(8):
            climb.take(counted_shape([point]))
            self.assertTrue(is_in(climb.shape(), point))
            point = (point[0] * HUGE, point[1] * HUGE)
        self.assertEqual(climb.shape()[0], [None, 0, 0, None])


class TestRows(unittest.TestCase):
    def test_rows_stay(self):
        dice = Dice(246)
        for count in COUNTS:
            for program in programs(dice, count, 8):
                before = copy.deepcopy(program.rows)
                partners(program.rows)
                made_ways(program.rows, count)
                self.assertEqual(program.rows, before)

    def test_rows_that_are_refused_stay(self):
        for words in ("if else else", "claim end", "while if"):
            rows = rows_of(words.split())
            before = copy.deepcopy(rows)
            for tell in (partners, ways):
                with self.assertRaises(NoBlock):
                    tell(rows)
            self.assertEqual(rows, before)

    def test_lists_told_are_new(self):
        for words in ("", "claim", "if else end", "while end"):
            rows = rows_of(words.split())
            for tell in (partners, ways):
                first, second = tell(rows), tell(rows)
                self.assertIsNot(first, second)
                wanted = len(first)
                second.append(7)
                second.reverse()
                self.assertEqual((len(first), len(tell(rows))), (wanted, wanted))

    def test_what_is_done_to_a_list_told_changes_no_later_answer(self):
        dice = Dice(247)
        for program in programs(dice, 2, 8):
            wanted = made_ways(program.rows, 2)
            told = partners(program.rows)
            told[:] = [None, 5]
            some = ways(program.rows)
            some.reverse()
            some.append(None)
            self.assertEqual(partners(program.rows), program.partners)
            self.assertEqual(made_ways(program.rows, 2), wanted)

    def test_what_is_done_behind_to_the_rows_changes_no_answer(self):
        dice = Dice(248)
        for program in programs(dice, 2, 8):
            rows = list(program.rows)
            told, found = partners(rows), ways(rows)
            rows.reverse()
            rows.append(("end",))
            self.assertEqual(told, program.partners)
            self.assertEqual([(at, to) for at, to, deed in found], [(at, to) for at, to, spec in program.ways()])
            self.assertEqual(partners(program.rows), program.partners)

    def test_equal_rows_get_equal_answers(self):
        dice = Dice(249)
        for program in programs(dice, 3, 8):
            self.assertEqual(made_ways(copy.deepcopy(program.rows), 3), made_ways(program.rows, 3))


if __name__ == "__main__":
    unittest.main()
