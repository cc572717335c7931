"""Steps over entries and widened tables, found without the package."""

from tests.samples import HUGE, flips, forms

ALL_STEPS = (
    [], [0], [5], [-5], [HUGE], [-HUGE], [-1, 0, 1], [-20, -9, -8, -3], [3, 50], [-100, -7, -1, 0, 2, 3, 16, 100],
    [-HUGE, -HUGE + 1, -4, 0, 5, HUGE - 2, HUGE - 1, HUGE], [2, 4, 8, 16, 32, 64, 128, 256],
)


def counted_step(steps, f, g, entry):
    """The step over an entry, found by going through the steps from below."""
    if entry is None:
        return None
    for step in steps:
        reach = step + step if f == g else step
        if reach >= entry:
            return reach
    return None


def is_above(one, other):
    if other is None:
        return False
    return one is None or one > other


def counted_widened(table, shape, steps):
    """The widened table, found entry by entry."""
    found = []
    for f, row in enumerate(table):
        found.append([])
        for g, entry in enumerate(row):
            rises = is_above(shape[f][g], entry)
            found[f].append(counted_step(steps, f, g, shape[f][g]) if rises else entry)
    return found


def thrown_table(dice, count, reach):
    """A table that may be widened, whether it is a shape of any points or not."""
    flip = flips(count)
    found = [[None] * (2 * count) for f in forms(count)]
    for f in forms(count):
        found[f][flip[f]] = 0
        for g in range(f + 1):
            if g != flip[f] and dice.below(3) > 0:
                number = dice.between(-reach, reach)
                found[f][g] = found[g][f] = 2 * number if f == g else number
    return found
