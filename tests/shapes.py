"""Shapes that several tests go through, with the sides that made them."""

from eightsides.closing import closed
from tests.counting import boxed_points, boxed_sides, sides_round
from tests.samples import COUNTS, HUGE, points


def open_shapes(dice, turns):
    """Shapes of all counts with numbers and None among their entries, with the sides that made them."""
    return [(count, sides, shape) for count, point, sides, shape in shapes_round_points(dice, turns)]


def shapes_round_points(dice, turns):
    """The same, with a point that lies in each shape."""
    found = []
    for count in COUNTS:
        for turn in range(turns):
            point = points(count)[dice.below(24)]
            sides = sides_round(dice, point, dice.below(3 * count + 1), (0, 2, 9, HUGE)[turn % 4])
            found.append((count, point, sides, closed(count, sides)))
    return found


def boxed_shapes(dice, turns):
    """Shapes that lie in the small boxes, empty ones among them, with all their points; turns is how many of
    each count."""
    found = []
    for count, many in turns:
        for turn in range(many):
            sides = boxed_sides(dice, count)
            found.append((count, boxed_points(count, sides), closed(count, sides)))
    return found


def spoil(table):
    """Changes every list of a table."""
    for row in table:
        row[0] = -77
        row.append(5)
    table.pop()
