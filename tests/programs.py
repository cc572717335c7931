"""Programs with the partners of their rows and their ways, told as they are made, without the package.

A way is told as (from, to, spec), its deed as the tuple that tests.doing tells."""

from eightsides.errors import EightError, NoBlock, NoLink, NoName, NoRow, NotStraight
from tests.doing import amounts, asks, questions
from tests.samples import HUGE, points

BLOCK_WORDS = ("if", "while", "else", "end")
REACHES = (3, 9, HUGE)


def turn(question):
    f, g, word, c = question
    word, c = {"most": ("least", c + 1), "least": ("most", c - 1), "same": ("unlike", c), "unlike": ("same", c)}[word]
    return (f, g, word, c)


def thrown_question(dice, count):
    found = questions(dice, points(count)[dice.below(24)], 2)
    return found[dice.below(len(found))]


def thrown_row(dice, count, word):
    """A row of that word."""
    reach = REACHES[dice.below(3)]
    k = dice.below(count)
    if word == "set":
        found = amounts(dice, count, k, -reach, reach)
        return ("set", k, *found[dice.below(len(found))])
    if word == "ask":
        return asks(dice, k, -reach, reach)[dice.below(5)]
    if word in ("else", "end"):
        return (word,)
    return (word, thrown_question(dice, count))


class Program:
    """A program that is written row by row."""

    def __init__(self, dice, count):
        self.dice = dice
        self.count = count
        self.rows = []
        self.partners = []
        self.leads = []

    def ways(self):
        return [(at, to, spec) for at, leads in enumerate(self.leads) for to, spec in leads]

    def write(self, word):
        """Writes a row of that word, which leads to nothing yet, and tells its number."""
        self.rows.append(thrown_row(self.dice, self.count, word))
        self.partners.append(None)
        self.leads.append([])
        return len(self.rows) - 1

    def write_plain(self):
        at = self.write(("set", "ask", "need", "claim")[self.dice.below(4)])
        row = self.rows[at]
        spec = {"set": ("put", row[1], row[2:]), "ask": row, "need": ("keep", row[1]), "claim": ("go",)}[row[0]]
        self.leads[at] = [(at + 1, spec)]

    def write_while(self, room, depth):
        start = self.write("while")
        self.write_some(room, depth)
        end = self.write("end")
        question = self.rows[start][1]
        self.partners[start], self.partners[end] = end, start
        self.leads[start] = [(start + 1, ("keep", question)), (end + 1, ("keep", turn(question)))]
        self.leads[end] = [(start, ("go",))]

    def write_if(self, room, depth):
        start = self.write("if")
        self.write_some(room, depth)
        other = self.write("else") if self.dice.below(2) else None
        if other is not None:
            self.write_some(room, depth)
        end = self.write("end")
        question = self.rows[start][1]
        self.partners[start], self.partners[end] = end, start
        self.leads[start] = [(start + 1, ("keep", question)), (end, ("keep", turn(question)))]
        self.leads[end] = [(end + 1, ("go",))]
        if other is not None:
            self.partners[start], self.partners[other] = other, end
            self.leads[start][1] = (other + 1, ("keep", turn(question)))
            self.leads[other] = [(end, ("go",))]

    def write_some(self, room, depth):
        """Writes as many rows and blocks as there is room for, perhaps fewer, no more than depth within each other."""
        for turn_number in range(self.dice.below(room + 1)):
            thrown = self.dice.below(4)
            if depth == 0 or thrown < 2:
                self.write_plain()
            elif thrown == 2:
                self.write_while(room, depth - 1)
            else:
                self.write_if(room, depth - 1)


def programs(dice, count, many):
    """Programs of 0 to 60 rows, blocks within blocks among them; the first one has no rows, the second one sixty."""
    found = [Program(dice, count), Program(dice, count)]
    found[1].write_while(2, 2)
    while len(found[1].rows) < 60:
        found[1].write_plain()
    while len(found) < many:
        program = Program(dice, count)
        program.write_some(4, 3)
        if len(program.rows) <= 60:
            found.append(program)
    return found


def rows_of(words, question=(0, None, "most", 5)):
    """Rows of these words, which are those of blocks and need and claim, with one question for all."""
    return [(word,) if word in ("else", "end") else (word, question) for word in words]


def last_opened(rows, at):
    """The if or while ahead of a row that was opened last of those that are open there, None where nothing is."""
    for start in range(at - 1, -1, -1):
        if rows[start][0] in ("if", "while") and not is_closed(rows, start, at):
            return start
    return None


def is_closed(rows, start, at):
    depth = 1
    for row in rows[start + 1:at]:
        depth += {"if": 1, "while": 1, "end": -1}.get(row[0], 0)
        if depth == 0:
            return True
    return False


def first_refused(rows):
    """The number of the row at which the blocks are refused, None where they are not, found row by row."""
    for at, row in enumerate(rows):
        start = last_opened(rows, at)
        if row[0] == "end" and start is None:
            return at
        if row[0] == "else" and (start is None or rows[start][0] == "while" or has_else(rows, start, at)):
            return at
    return last_opened(rows, len(rows))


def has_else(rows, start, at):
    return any(rows[other][0] == "else" and last_opened(rows, other) == start for other in range(start + 1, at))


def check_refused(test, tell, rows, at):
    """Fails unless the rows are refused with NoBlock at that row, whoever tells of them."""
    with test.assertRaises(NoBlock) as caught:
        tell(rows)
    test.assertEqual(caught.exception.at, at, rows)
    test.assertIs(type(caught.exception.at), int)
    test.assertIsInstance(caught.exception, EightError)
    test.assertNotIsInstance(caught.exception, (NoLink, NotStraight, NoRow, NoName))
