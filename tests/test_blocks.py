"""Points 28 and 29: the partners of the rows of a program, and the rows at which its blocks are refused."""

import itertools
import unittest

from eightsides.blocks import partners
from tests.counting import Dice
from tests.programs import BLOCK_WORDS, check_refused, first_refused, last_opened, programs, rows_of, thrown_row
from tests.samples import COUNTS, HUGE

WORDS = ("set", "ask", "need", "claim") + BLOCK_WORDS


def told_partners(words):
    return partners(rows_of(words.split()))


def counted_partners(rows):
    """The partners of rows whose blocks are not refused, found from what is open at each row."""
    found = [None] * len(rows)
    for at, row in enumerate(rows):
        if row[0] == "end":
            found[at] = last_opened(rows, at)
            found[found[at]] = at
    for at, row in enumerate(rows):
        if row[0] == "else":
            start = last_opened(rows, at)
            found[at] = found[start]
    for at, row in enumerate(rows):
        if row[0] == "else":
            found[last_opened(rows, at)] = at
    return found


class TestPartners(unittest.TestCase):
    def test_of_no_rows(self):
        self.assertEqual(partners([]), [])

    def test_rows_that_are_of_no_block_have_none(self):
        question = (0, None, "most", 5)
        for row in (
            ("set", 0, None, None, 4), ("set", 0, 1, None, -HUGE), ("set", 1, 0, 3, 0), ("set", 1, 2, 2, 1),
            ("ask", 0, 1, 2), ("ask", 0, 1, None), ("ask", 0, None, -2), ("ask", 1, None, None),
            ("need", question), ("need", (0, 2, "same", HUGE)), ("claim", question), ("claim", (1, 1, "unlike", 0)),
        ):
            self.assertEqual(partners([row]), [None])
            self.assertEqual(partners([row] * 60), [None] * 60)
            self.assertEqual(partners([("while", question), row, ("end",), row]), [2, None, 0, None])

    def test_of_one_block(self):
        self.assertEqual(told_partners("while end"), [1, 0])
        self.assertEqual(told_partners("if end"), [1, 0])
        self.assertEqual(told_partners("if else end"), [1, 2, 0])
        self.assertEqual(told_partners("claim if claim else claim end claim"), [None, 3, None, 5, None, 1, None])
        self.assertEqual(told_partners("claim if claim claim end claim"), [None, 4, None, None, 1, None])
        self.assertEqual(told_partners("claim while claim end"), [None, 3, None, 1])

    def test_of_blocks_behind_each_other(self):
        self.assertEqual(told_partners("if end if else end while end"), [1, 0, 3, 4, 2, 6, 5])

    def test_of_blocks_within_blocks(self):
        self.assertEqual(told_partners("while while while end end end"), [5, 4, 3, 2, 1, 0])
        self.assertEqual(told_partners("if if end else if else end end"), [3, 2, 1, 7, 5, 6, 4, 0])
        self.assertEqual(told_partners("while if while end else end end"), [6, 4, 3, 2, 5, 1, 0])
        self.assertEqual(told_partners("if while end else while end end"), [3, 2, 1, 6, 5, 4, 0])

    def test_of_thirty_blocks_within_each_other(self):
        for word in ("if", "while"):
            self.assertEqual(partners(rows_of([word] * 30 + ["end"] * 30)), list(range(59, -1, -1)))
        self.assertEqual(
            partners(rows_of(["if"] * 20 + ["else", "end"] * 20)),
            list(range(58, 18, -2)) + [one for k in range(20) for one in (2 * k + 21, 19 - k)],
        )

    def test_of_programs_as_they_are_made(self):
        dice = Dice(221)
        lengths = []
        for count in COUNTS:
            for program in programs(dice, count, 60):
                told = partners(program.rows)
                self.assertEqual(told, program.partners)
                self.assertIs(type(told), list)
                self.assertEqual({type(partner) for partner in told} - {int, type(None)}, set())
                lengths.append(len(program.rows))
        self.assertIn(0, lengths)
        self.assertIn(60, lengths)


class TestRefused(unittest.TestCase):
    def check_words(self, words, at):
        check_refused(self, partners, rows_of(words.split()), at)

    def test_an_else_where_nothing_is_open(self):
        self.check_words("else", 0)
        self.check_words("claim claim else", 2)
        self.check_words("if end else", 2)
        self.check_words("if else end else", 3)
        self.check_words("else if end", 0)

    def test_an_else_of_a_while(self):
        self.check_words("while else end", 1)
        self.check_words("if while else end end", 2)
        self.check_words("if else while else end end", 3)
        self.check_words("while if end else end", 3)

    def test_the_second_else_of_an_if(self):
        self.check_words("if else else end", 2)
        self.check_words("if claim else claim else end", 4)
        self.check_words("while if else if else end else end end", 6)
        self.check_words("if else if end else end", 4)

    def test_an_end_where_nothing_is_open(self):
        self.check_words("end", 0)
        self.check_words("claim end", 1)
        self.check_words("if end end", 2)
        self.check_words("while if else end end end while end", 5)

    def test_one_block_left_open(self):
        self.check_words("if", 0)
        self.check_words("while", 0)
        self.check_words("if else", 0)
        self.check_words("claim while claim", 1)
        self.check_words("claim if claim else claim", 1)
        self.check_words("while if else end", 0)
        self.check_words("if end while while end", 2)

    def test_several_left_open_the_one_opened_last(self):
        self.check_words("if while if", 2)
        self.check_words("while if claim", 1)
        self.check_words("while if else", 1)
        self.check_words("if if while end else", 1)
        self.check_words("while while while end", 1)
        check_refused(self, partners, rows_of(["while"] * 60), 59)

    def test_of_two_wrong_rows_the_first(self):
        self.check_words("else end", 0)
        self.check_words("end else", 0)
        self.check_words("claim end claim else", 1)
        self.check_words("while else else end end", 1)
        self.check_words("if else else end end", 2)
        self.check_words("end while", 0)

    def test_a_wrong_row_is_told_whatever_is_left_open(self):
        self.check_words("while if else else", 3)
        self.check_words("if while else", 2)
        self.check_words("if end end while", 2)
        self.check_words("while while else", 2)

    def test_an_else_is_not_of_an_if_that_was_opened_ahead_of_an_open_while(self):
        self.check_words("if while else", 2)
        self.check_words("if while end else end else", 5)

    def test_with_rows_of_each_sort(self):
        dice = Dice(222)
        for words in (
            "set ask need claim else", "if set while ask else end end", "need end set", "ask if claim while set end",
        ):
            rows = [thrown_row(dice, 3, word) for word in words.split()]
            check_refused(self, partners, rows, first_refused(rows))

    def test_all_short_programs(self):
        for length in range(6):
            for words in itertools.product(("claim",) + BLOCK_WORDS, repeat=length):
                self.check_as_found(rows_of(words))

    def test_thrown_programs(self):
        dice = Dice(223)
        refused = 0
        for turn in range(1500):
            # Ends are thrown more often, so that not nearly all programs have something open at the end.
            words = [(WORDS + ("end",))[dice.below(9)] for row in range(dice.below(16))]
            refused += self.check_as_found([thrown_row(dice, 1 + turn % 6, word) for word in words])
        self.assertTrue(100 < refused < 1400)

    def test_programs_with_a_row_left_out_or_put_in(self):
        dice = Dice(224)
        refused = 0
        for program in programs(dice, 2, 120):
            at = dice.below(len(program.rows) + 1)
            row = thrown_row(dice, 2, BLOCK_WORDS[dice.below(4)])
            refused += self.check_as_found(program.rows[:at] + [row] + program.rows[at:])
            refused += self.check_as_found(program.rows[:at] + program.rows[at + 1:])
        self.assertGreater(refused, 60)

    def check_as_found(self, rows):
        """Checks what is told or refused, and tells whether it is refused."""
        at = first_refused(rows)
        if at is None:
            self.assertEqual(partners(rows), counted_partners(rows), rows)
            return False
        check_refused(self, partners, rows, at)
        return True


if __name__ == "__main__":
    unittest.main()
