"""Points 28 and 30: the ways from row to row, and their deeds."""

import unittest

from eightsides.deeds import Ask, Deed, Go, Keep, Put
from eightsides.ways import ways
from tests.counting import Dice, box, counted_shape
from tests.doing import answer_at, deed_of, made
from tests.programs import BLOCK_WORDS, check_refused, first_refused, programs, rows_of, thrown_row, turn
from tests.samples import COUNTS, HUGE, NUMBERS, WORDS, points

LOW, HIGH = (0, None, "most", 5), (0, None, "least", 6)
KINDS = {"go": Go, "keep": Keep, "put": Put, "ask": Ask}


def places(told):
    return [(at, to) for at, to, deed in told]


class WayChecks(unittest.TestCase):
    def check_deed(self, deed, spec, count):
        """Checks that a deed is of the told kind and makes what it should of many points and shapes."""
        self.assertIsInstance(deed, Deed)
        self.assertIs(type(deed), KINDS[spec[0]], spec)
        self.assertIs(deed.asks(), spec[0] == "ask")
        for point in points(count) + box(count, 1)[:27]:
            for number in (0, -HUGE, HUGE, 3):
                self.assertEqual(deed.done(point, number), made(spec, point, number), (spec, point, number))
        shape = counted_shape(points(count)[:5])
        self.assertEqual(deed.image(shape), deed_of(spec).image(shape))
        self.assertEqual(deed.source(shape, 0, 0, -8), deed_of(spec).source(shape, 0, 0, -8))

    def check_ways(self, rows, wanted, count=2):
        told = ways(rows)
        self.assertIs(type(told), list)
        self.assertEqual({type(way) for way in told} - {tuple}, set())
        self.assertEqual({type(place) for way in places(told) for place in way} - {int}, set())
        self.assertEqual(places(told), [(at, to) for at, to, spec in wanted], rows)
        for (at, to, deed), (wanted_at, wanted_to, spec) in zip(told, wanted):
            self.check_deed(deed, spec, count)


class TestWays(WayChecks):
    def test_of_no_rows(self):
        self.assertEqual(ways([]), [])

    def test_of_a_set_row(self):
        for k in (0, 1):
            for amount in ((None, None, 0), (None, None, -HUGE), (0, None, 3), (1, None, 0), (3, None, HUGE),
                           (0, 2, 1), (2, 2, -4), (1, 0, 7), (3, 1, 0)):
                self.check_ways([("set", k, *amount)], [(0, 1, ("put", k, amount))])

    def test_of_an_ask_row(self):
        for k in (0, 1):
            for low, high in ((-2, 4), (4, 4), (0, None), (-HUGE, None), (None, 0), (None, HUGE), (None, None), (0, 0)):
                self.check_ways([("ask", k, low, high)], [(0, 1, ("ask", k, low, high))])

    def test_of_a_need_row(self):
        for word in WORDS:
            for f, g, c in ((0, None, 4), (3, None, -5), (0, 2, 0), (1, 1, -8), (0, 1, 0)):
                self.check_ways([("need", (f, g, word, c))], [(0, 1, ("keep", (f, g, word, c)))])

    def test_of_a_claim_row_whatever_its_question(self):
        for word in WORDS:
            for question in ((0, None, word, 4), (0, 2, word, 0), (0, 1, word, 1)):
                self.check_ways([("claim", question)], [(0, 1, ("go",))])

    def test_of_an_if_without_an_else(self):
        self.check_ways([("if", LOW), ("end",)], [
            (0, 1, ("keep", LOW)), (0, 1, ("keep", HIGH)), (1, 2, ("go",)),
        ])
        self.check_ways([("if", LOW), ("claim", LOW), ("set", 1, 0, None, 4), ("end",), ("need", HIGH)], [
            (0, 1, ("keep", LOW)), (0, 3, ("keep", HIGH)), (1, 2, ("go",)), (2, 3, ("put", 1, (0, None, 4))),
            (3, 4, ("go",)), (4, 5, ("keep", HIGH)),
        ])

    def test_of_an_if_with_an_else(self):
        self.check_ways([("if", LOW), ("else",), ("end",)], [
            (0, 1, ("keep", LOW)), (0, 2, ("keep", HIGH)), (1, 2, ("go",)), (2, 3, ("go",)),
        ])
        self.check_ways([("if", HIGH), ("ask", 0, 1, None), ("else",), ("claim", LOW), ("end",), ("claim", LOW)], [
            (0, 1, ("keep", HIGH)), (0, 3, ("keep", LOW)), (1, 2, ("ask", 0, 1, None)), (2, 4, ("go",)),
            (3, 4, ("go",)), (4, 5, ("go",)), (5, 6, ("go",)),
        ])

    def test_of_a_while(self):
        self.check_ways([("while", LOW), ("end",)], [
            (0, 1, ("keep", LOW)), (0, 2, ("keep", HIGH)), (1, 0, ("go",)),
        ])
        self.check_ways([("claim", LOW), ("while", LOW), ("set", 0, 0, None, 1), ("end",), ("claim", HIGH)], [
            (0, 1, ("go",)), (1, 2, ("keep", LOW)), (1, 4, ("keep", HIGH)), (2, 3, ("put", 0, (0, None, 1))),
            (3, 1, ("go",)), (4, 5, ("go",)),
        ])

    def test_of_blocks_within_blocks(self):
        self.assertEqual(places(ways(rows_of("while if while end else end end".split()))), [
            (0, 1), (0, 7), (1, 2), (1, 5), (2, 3), (2, 4), (3, 2), (4, 5), (5, 6), (6, 0),
        ])
        self.assertEqual(places(ways(rows_of("if if end else if else end end".split()))), [
            (0, 1), (0, 4), (1, 2), (1, 2), (2, 3), (3, 7), (4, 5), (4, 6), (5, 6), (6, 7), (7, 8),
        ])
        self.assertEqual(places(ways(rows_of("if while end end".split()))), [
            (0, 1), (0, 3), (1, 2), (1, 3), (2, 1), (3, 4),
        ])

    def test_first_the_way_of_the_question_then_that_of_the_turned_one(self):
        for start in ("if", "while"):
            for word in WORDS:
                for f, g, c in ((0, None, 4), (1, None, -4), (0, 2, 3), (2, 2, 8), (0, 1, 0)):
                    question = (f, g, word, c)
                    first, second = [way[2] for way in ways([(start, question), ("end",)])[:2]]
                    for point in box(2, 6):
                        here = answer_at(point, question)
                        self.assertEqual(first.done(point, 0), point if here else None)
                        self.assertEqual(second.done(point, 0), None if here else point)

    def test_numbers_of_three_hundred_figures(self):
        for word in WORDS:
            for c in NUMBERS:
                question = (0, 3, word, c)
                for start, onward in (("if", 1), ("while", 2)):
                    self.check_ways([(start, question), ("end",)], [
                        (0, 1, ("keep", question)), (0, onward, ("keep", turn(question))),
                        (1, 2 if start == "if" else 0, ("go",)),
                    ])


class TestMadePrograms(WayChecks):
    def test_as_they_are_made(self):
        dice = Dice(231)
        words = set()
        for count in COUNTS:
            for program in programs(dice, count, 12):
                self.check_ways(program.rows, program.ways(), count)
                words.update([row[0] for row in program.rows])
        self.assertEqual(len(words), 8)

    def test_in_the_order_of_from_and_all_within_the_program(self):
        dice = Dice(232)
        for program in programs(dice, 3, 60):
            told = places(ways(program.rows))
            starts = [at for at, to in told]
            self.assertEqual(starts, sorted(starts))
            self.assertEqual(sorted(set(starts)), list(range(len(program.rows))))
            for at, row in enumerate(program.rows):
                self.assertEqual(starts.count(at), 2 if row[0] in ("if", "while") else 1)
            for at, to in told:
                self.assertTrue(0 <= to <= len(program.rows))

    def test_just_one_way_can_be_gone_from_each_row_at_each_point(self):
        dice = Dice(233)
        seen = set()
        for count in COUNTS:
            for program in programs(dice, count, 10):
                told = ways(program.rows)
                for point in points(count):
                    for at, row in enumerate(program.rows):
                        gone = [to for start, to, deed in told if start == at and deed.done(point, 4) is not None]
                        stands = row[0] == "need" and not answer_at(point, row[1])
                        self.assertEqual(len(gone), 0 if stands else 1, (row, point))
                        seen.add((row[0], stands))
        self.assertEqual(len(seen), 9)


class TestRefused(unittest.TestCase):
    def test_each_way_to_be_refused(self):
        for words, at in (
            ("else", 0), ("claim else", 1), ("while else end", 1), ("if while else end end", 2),
            ("if else else end", 2), ("end", 0), ("if end end", 2), ("if", 0), ("while claim", 0), ("if else", 0),
            ("while if while end", 1), ("end else", 0), ("while else end end", 1), ("if end end while", 2),
        ):
            check_refused(self, ways, rows_of(words.split()), at)

    def test_thrown_programs(self):
        dice = Dice(234)
        refused = 0
        for turn_number in range(400):
            words = [(BLOCK_WORDS + ("set", "claim"))[dice.below(6)] for row in range(dice.below(9))]
            rows = [thrown_row(dice, 2, word) for word in words]
            at = first_refused(rows)
            if at is None:
                ways(rows)
            else:
                refused += 1
                check_refused(self, ways, rows, at)
        self.assertTrue(100 < refused < 390)


if __name__ == "__main__":
    unittest.main()
