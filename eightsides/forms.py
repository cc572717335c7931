"""Forms: form 2 * k is the number of name k, form 2 * k + 1 that number with its sign turned.

A point is a tuple with one whole number for each name.
"""


def flipped(f):
    if f % 2 == 0:
        return f + 1
    return f - 1


def worth(point, f):
    number = point[f // 2]
    if f % 2 == 0:
        return number
    return -number


def total(point, forms):
    return sum([worth(point, f) for f in forms])
