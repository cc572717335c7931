"""Points 2 and 3 for comparing, joins, changes and deeds: what is handed in stays, what is told is the asker's own."""

import copy
import unittest

from eightsides.changes import amount_at, asked, filled, put
from eightsides.closing import closed, held, told_sides
from eightsides.compare import apart, within
from eightsides.deeds import Ask, Go, Keep, Put
from eightsides.joins import join
from tests.counting import Dice, box, counted_shape
from tests.doing import deed_of, specs
from tests.samples import COUNTS, HUGE, points
from tests.shapes import shapes_round_points, spoil

# What tells a shape, of a shape and another one of the same count.
TELLERS = {
    "join": join,
    "join of one and the empty shape": lambda one, other: join(one, None),
    "join of the empty shape and one": lambda one, other: join(None, one),
    "join of one and itself": lambda one, other: join(one, one),
    "asked": lambda one, other: asked(one, 0, -4, HUGE),
    "asked without ends": lambda one, other: asked(one, len(one) // 2 - 1, None, None),
    "put of itself": lambda one, other: put(one, 0, (0, None, 0)),
    "put of a number": lambda one, other: put(one, 0, (None, None, 4)),
    "go": lambda one, other: Go().image(one),
    "keep of one case": lambda one, other: Keep((0, 1, "most", 0)).image(one),
    "keep of two cases": lambda one, other: Keep((0, None, "unlike", HUGE + 7)).image(one),
    "keep of two cases, one empty": lambda one, other: Keep((0, 1, "unlike", 7)).image(one),
    "put": lambda one, other: Put(0, (1, 1, -3)).image(one),
    "ask": lambda one, other: Ask(0, None, 3).image(one),
}


def pairs(seed):
    """Two shapes of one count each, no list in two of them."""
    shapes = shapes_round_points(Dice(seed), 4)
    return [copy.deepcopy((one[3], other[3])) for one, other in zip(shapes, shapes[1:]) if one[0] == other[0]]


def answers(one, other):
    """What is told of two shapes but for tables, by all functions and deeds."""
    count = len(one) // 2
    told = [apart(one, other), within(one, other), filled(one, (3,) * count, 0), filled(one, (-9,) * count, count - 1)]
    for spec in specs(Dice(7), points(count)[2], 4):
        deed = deed_of(spec)
        told.append((deed.asks(), deed.done((2,) * count, 8), deed.source(one, 0, 2 * count - 1, -HUGE)))
    return told


class TestHandedIn(unittest.TestCase):
    def test_tables_stay(self):
        for one, other in pairs(171):
            before = copy.deepcopy((one, other))
            for tell in TELLERS.values():
                tell(one, other)
            answers(one, other)
            self.assertEqual((one, other), before)

    def test_questions_amounts_and_points_stay(self):
        for count in COUNTS:
            point = points(count)[5]
            for spec in specs(Dice(8), point, 2):
                before = copy.deepcopy((spec, point))
                deed = deed_of(spec)
                deed.done(point, 4)
                deed.image(counted_shape([point]))
                deed.source(counted_shape([point]), 0, 1, 0)
                if spec[0] == "put":
                    amount_at(point, spec[2])
                self.assertEqual((spec, point), before)

    def test_what_is_done_behind_to_a_table_changes_no_answer(self):
        for one, other in pairs(172):
            before = copy.deepcopy((one, other))
            tables = [tell(one, other) for tell in TELLERS.values()]
            told = tables, answers(one, other)
            wanted = copy.deepcopy(told)
            spoil(one)
            spoil(other)
            self.assertEqual(told, wanted)
            self.assertEqual([tell(*before) for tell in TELLERS.values()], wanted[0])
            self.assertEqual(answers(*before), wanted[1])


class TestTold(unittest.TestCase):
    def test_tables_are_lists_of_lists(self):
        for one, other in pairs(173):
            for name, tell in TELLERS.items():
                told = tell(one, other)
                self.assertIs(type(told), list, name)
                for row in told:
                    self.assertIs(type(row), list, name)
                    for entry in row:
                        self.assertIn(type(entry), (int, type(None)), name)

    def test_every_list_is_new(self):
        for one, other in pairs(174):
            for name, tell in TELLERS.items():
                lists = [one, other, *one, *other]
                for told in (tell(one, other), tell(one, other)):
                    lists.extend([told, *told])
                self.assertEqual(len({id(some) for some in lists}), len(lists), name)

    def test_what_is_done_to_a_table_changes_no_later_answer_and_nothing_handed_in(self):
        for one, other in pairs(175):
            before = copy.deepcopy((one, other))
            for name, tell in TELLERS.items():
                told = tell(one, other)
                wanted = copy.deepcopy(told)
                spoil(told)
                self.assertEqual((one, other), before, name)
                self.assertEqual(tell(one, other), wanted, name)

    def test_a_deed_tells_new_tables_each_time(self):
        for deed in (Go(), Keep((0, None, "unlike", 1)), Put(0, (0, None, 1)), Ask(0, -1, 1)):
            shape = closed(1, [(0, 0, 8), (1, 1, 8)])
            first = deed.image(shape)
            wanted = copy.deepcopy(first)
            spoil(deed.image(shape))
            self.assertEqual(first, wanted)
            self.assertEqual(deed.image(shape), wanted)


class TestEqualPoints(unittest.TestCase):
    """Point 3: the same points make equal tables, whichever way they were come to."""

    def test_come_to_by_all_functions(self):
        wanted = counted_shape(box(2, 2))
        square = [(f, f, 4) for f in range(4)]
        for told in (
            closed(2, square),
            join(closed(2, square + [(0, 0, 0)]), closed(2, square + [(1, 1, -2)])),
            asked(closed(2, square[:2] + [(0, 2, 0), (1, 3, 0)]), 1, -2, 2),
            put(closed(2, square), 0, (1, None, 0)),
            put(put(closed(2, square), 1, (2, None, 5)), 1, (2, None, -5)),
            Go().image(closed(2, square)),
            Keep((2, None, "most", 2)).image(closed(2, square[:2] + square[3:])),
            Put(1, (3, None, 0)).image(closed(2, square)),
            Ask(0, -2, 2).image(closed(2, square[2:])),
        ):
            self.assertEqual(told, wanted)
            self.assertTrue(within(told, wanted) and within(wanted, told))

    def test_what_is_told_is_made_again_by_its_told_sides(self):
        for one, other in pairs(176):
            for name, tell in TELLERS.items():
                told = tell(one, other)
                self.assertEqual(closed(len(one) // 2, told_sides(told)), told, name)

    def test_equal_tables_handed_in_get_equal_answers(self):
        for one, other in pairs(177):
            twin, other_twin = copy.deepcopy((one, other))
            self.assertEqual(answers(one, other), answers(twin, other_twin))
            self.assertEqual([tell(one, other) for tell in TELLERS.values()],
                             [tell(twin, other_twin) for tell in TELLERS.values()])


class TestToldAndHandedInAgain(unittest.TestCase):
    def test_deeds_one_behind_the_other_with_growing_numbers(self):
        # Numbers that are told may have more figures than those that are handed in.
        point, shape = (HUGE, -HUGE), counted_shape([(HUGE, -HUGE)])
        for turn in range(12):
            for spec in (("put", 0, (0, 0, 1)), ("put", 1, (2, 1, -HUGE))):
                point, shape = deed_of(spec).done(point, 0), deed_of(spec).image(shape)
                self.assertEqual(shape, counted_shape([point]))
                self.assertEqual(deed_of(spec).source(shape, 0, 0, -HUGE ** 3)[0], point)
        self.assertEqual(held(shape, (0, 0, 2 * point[0])), shape)


if __name__ == "__main__":
    unittest.main()
