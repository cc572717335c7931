"""The join of two shapes: the shape of all points that lie in one of them or in both."""

from eightsides.entries import greater


def join(one, other):
    if one is None:
        return copied(other)
    if other is None:
        return copied(one)
    return [joined_row(row, other_row) for row, other_row in zip(one, other)]


# What is told is the asker's own, so no row of a shape that was handed in is told again.
def copied(shape):
    if shape is None:
        return None
    return [list(row) for row in shape]


def joined_row(row, other_row):
    return [greater(entry, other_entry) for entry, other_entry in zip(row, other_row)]
