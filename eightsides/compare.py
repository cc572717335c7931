"""Comparing two shapes: a point that lies in the one, but not in the other, and whether there is none."""

from eightsides.closing import told_sides
from eightsides.points import reaching, some_point


# A point that does not lie in a shape breaks one of its told sides: it goes beyond the side's number.
def apart(one, other):
    if other is None:
        return some_point(one)
    for side in told_sides(other):
        point = reaching(one, [side[0], side[1]], side[2] + 1)
        if point is not None:
            return point
    return None


def within(one, other):
    return apart(one, other) is None
