"""Sides: a tuple (f, g, c), kept by a point where worth f + worth g is not above c."""

from eightsides.errors import NoLink
from eightsides.forms import flipped, worth


def keeps(point, side):
    return worth(point, side[0]) + worth(point, side[1]) <= side[2]


# Over whole numbers a sum that is above c is at least c + 1: so the turned sum is at most -c - 1.
def against(side):
    return (flipped(side[0]), flipped(side[1]), -side[2] - 1)


# The worths of a form and its flip come to 0, so the form in the middle falls out of the sum.
def linked(one, other):
    if other[0] != flipped(one[1]):
        raise NoLink("the second side does not begin with the flip of the first one's second form")
    return (one[0], other[1], one[2] + other[2])


def chained(sides):
    if len(sides) == 0:
        raise NoLink("no sides are no chain")
    whole = sides[0]
    for side in sides[1:]:
        whole = linked(whole, side)
    return whole


# Twice a whole number is even, so no point comes to an odd c.
def halved(side):
    if side[0] != side[1]:
        return side
    return (side[0], side[1], side[2] - side[2] % 2)
