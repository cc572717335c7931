"""Shapes of sides: the table of the greatest sums of two forms at the points that keep some sides.

A table is a list of lists, with an entry [f][g] for all forms f and g. The shape of no points is None.
"""

from eightsides.entries import below, half, lesser, summed
from eightsides.forms import flipped


def wide(count):
    return [wide_row(f, 2 * count) for f in range(2 * count)]


def wide_row(f, length):
    return [0 if g == flipped(f) else None for g in range(length)]


def told_sides(table):
    told = []
    for f, row in enumerate(table):
        for g, entry in enumerate(row):
            if f <= g and g != flipped(f) and entry is not None:
                told.append((f, g, entry))
    return told


def closed(count, sides):
    return held_by_all(wide(count), sides)


def held(shape, side):
    return held_by_all(shape, [side])


def held_by_all(shape, sides):
    if shape is None:
        return None
    return tightened(lowered(shape, sides))


def lowered(table, sides):
    new = [list(row) for row in table]
    for side in sides:
        f = side[0]
        g = side[1]
        new[f][g] = lesser(new[f][g], side[2])
        new[g][f] = lesser(new[g][f], side[2])
    return new


# Half of [f][f], rounded down, bounds f alone: so two halves bound each sum of two forms, and f's own half twice
# is what [f][f] is halved to. Once all entries are linked, halves link to nothing new.
def tightened(table):
    whole = linked_through_all(table)
    halves = [half(whole[f][f]) for f in range(len(whole))]
    for f in range(len(whole)):
        if whole[f][flipped(f)] < 0 or below(summed(halves[f], halves[flipped(f)]), 0):
            return None
    return [row_within_halves(row, halves[f], halves) for f, row in enumerate(whole)]


def row_within_halves(row, own_half, halves):
    return [lesser(entry, summed(own_half, other_half)) for entry, other_half in zip(row, halves)]


def linked_through_all(table):
    whole = table
    for m in range(len(table)):
        whole = linked_through(whole, m)
    return whole


def linked_through(table, m):
    return [linked_row(row, row[flipped(m)], table[m]) for row in table]


def linked_row(row, ahead, onward):
    return [lesser(entry, summed(ahead, more)) for entry, more in zip(row, onward)]
