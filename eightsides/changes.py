"""Changes of one name: shapes and points with another number at a name k.

An amount is a tuple (f, g, c), two forms or None and a whole number: at a point it is the total of its forms, and c.
"""

from eightsides.closing import closed, told_sides
from eightsides.forms import flipped, total
from eightsides.points import fixed, greatest, least_factor, reaching, some_worth


def asked(shape, k, low, high):
    if shape is None:
        return None
    others = [side for side in told_sides(shape) if k not in (side[0] // 2, side[1] // 2)]
    return closed(len(shape) // 2, others + end_sides(k, low, high))


def end_sides(k, low, high):
    sides = []
    if low is not None:
        sides.append((2 * k + 1, 2 * k + 1, -2 * low))
    if high is not None:
        sides.append((2 * k, 2 * k, 2 * high))
    return sides


def filled(shape, point, k):
    left = shape
    for name, number in enumerate(point):
        if name != k:
            left = fixed(left, 2 * name, number)
    if left is None:
        return None
    return some_worth(left, 2 * k)


def with_number(point, k, number):
    return point[:k] + (number,) + point[k + 1:]


def amount_at(point, amount):
    return total(point, amount_forms(amount)) + amount[2]


def amount_forms(amount):
    return [f for f in amount[:2] if f is not None]


def put(shape, k, amount):
    if shape is None:
        return None
    return [put_row(shape, k, amount, f) for f in range(len(shape))]


def put_row(shape, k, amount, f):
    return [put_entry(shape, sum_ahead(k, amount, f, g)) for g in range(len(shape))]


def put_entry(shape, ahead):
    most = greatest(shape, ahead[1])
    if most is None:
        return None
    return ahead[0] * (most + ahead[2])


# A point of the shape of which the amount at k makes one that reaches the number with f and g.
def reaching_by_put(shape, k, amount, f, g, number):
    ahead = sum_ahead(k, amount, f, g)
    return reaching(shape, ahead[1], least_factor(ahead[0], 0, number) - ahead[2])


# What f and g together are, once the amount stands at k, told at the point ahead: a tuple (times, forms, c), times the
# total of the forms and c. Alike forms are counted as one twice, and flips as none, so that there are never more than
# three forms.
def sum_ahead(k, amount, f, g):
    if g == flipped(f):
        return (1, [], 0)
    one = form_ahead(k, amount, f)
    if g == f:
        return (2, one[0], one[1])
    other = form_ahead(k, amount, g)
    return (1, one[0] + other[0], one[1] + other[1])


def form_ahead(k, amount, f):
    if f == 2 * k:
        return (amount_forms(amount), amount[2])
    if f == 2 * k + 1:
        return ([flipped(g) for g in amount_forms(amount)], -amount[2])
    return ([f], 0)
