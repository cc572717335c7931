"""What several tests draw on: points of one to six names, and numbers of up to three hundred figures."""

HUGE = 10 ** 300 - 1
NUMBERS = (0, 1, -1, 4, -5, HUGE, -HUGE, 7)
COUNTS = range(1, 7)
WORDS = ("most", "least", "same", "unlike")


def points(count):
    """Points in which each name has each of the numbers once at least, beside changing others."""
    found = []
    for stride in (0, 1, 3):
        for start in range(len(NUMBERS)):
            found.append(tuple(NUMBERS[(start + stride * k) % len(NUMBERS)] for k in range(count)))
    return found


def forms(count):
    return range(2 * count)


def worths(point):
    """The worths of all forms at a point, in order, found without the package."""
    found = []
    for number in point:
        found.extend([number, 0 - number])
    return found


def flips(count):
    """The flips of all forms, in order, found without the package."""
    found = []
    for k in range(count):
        found.extend([2 * k + 1, 2 * k])
    return found
