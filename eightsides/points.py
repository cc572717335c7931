"""Points of shapes: whether one lies in a table, and points that reach the greatest sums of up to three forms."""

from eightsides.closing import held, held_by_all
from eightsides.entries import below, half, least, summed
from eightsides.forms import flipped
from eightsides.sides import keeps


def lies(table, point):
    if table is None:
        return False
    for f, row in enumerate(table):
        for g, entry in enumerate(row):
            if entry is not None and not keeps(point, (f, g, entry)):
                return False
    return True


# Every whole number between the least and the greatest of a form is met by a point of the shape:
# so whichever number a name is fixed at, something is left for the other names.
def some_point(shape):
    if shape is None:
        return None
    left = shape
    numbers = []
    for k in range(len(shape) // 2):
        number = some_worth(left, 2 * k)
        left = fixed(left, 2 * k, number)
        numbers.append(number)
    return tuple(numbers)


def some_worth(shape, f):
    most = half(shape[f][f])
    if most is not None:
        return most
    turned_most = half(shape[flipped(f)][flipped(f)])
    if turned_most is not None:
        return -turned_most
    return 0


def fixed(shape, f, number):
    return held_by_all(shape, [(f, f, 2 * number), (flipped(f), flipped(f), -2 * number)])


def greatest(shape, forms):
    if len(forms) == 0:
        return 0
    if len(forms) == 1:
        return half(shape[forms[0]][forms[0]])
    if len(forms) == 2:
        return shape[forms[0]][forms[1]]
    return greatest_of_three(shape, forms[0], forms[1], forms[2])


def greatest_of_three(shape, f, g, h):
    all_pairs = summed(summed(shape[f][g], shape[g][h]), shape[f][h])
    return least([
        summed(shape[f][g], half(shape[h][h])),
        summed(shape[f][h], half(shape[g][g])),
        summed(shape[g][h], half(shape[f][f])),
        half(all_pairs),
    ])


def reaching(shape, forms, number):
    if shape is None or below(greatest(shape, forms), number):
        return None
    left = without_flips(forms)
    if len(left) == 0:
        return some_point(shape)
    if len(left) == 1:
        return reaching_with_two(shape, left[0], left[0], 2 * number)
    if len(left) == 2:
        return reaching_with_two(shape, left[0], left[1], number)
    return reaching_with_three(shape, left, number)


# A form and its flip come to 0 at every point.
def without_flips(forms):
    left = []
    for f in forms:
        if flipped(f) in left:
            left.remove(flipped(f))
        else:
            left.append(f)
    return left


def reaching_with_two(shape, f, g, number):
    return some_point(held(shape, (flipped(f), flipped(g), -number)))


def reaching_with_three(shape, forms, number):
    lone = [f for f in forms if forms.count(f) == 1]
    if len(lone) == 0:
        return reaching_with_two(shape, forms[0], forms[0], 2 * least_factor(3, 0, number))
    h = lone[0]
    others = [f for f in forms if f != h]
    z = worth_to_fix(shape, others[0], others[1], h, number)
    return reaching_with_two(fixed(shape, h, z), others[0], others[1], number - z)


# The higher h stands, the lower f and g are kept by [f][h] and [g][h]: so it stands as high as these allow.
# Where they allow any height, it has to stand high enough that f and g, which rise with it, reach the rest.
def worth_to_fix(shape, f, g, h, number):
    highest = least([half(shape[h][h]), summed(summed(shape[f][h], shape[g][h]), -number)])
    if highest is not None:
        return highest
    turn = flipped(h)
    needed = [
        least_factor(1, half(shape[turn][turn]), 0),
        least_factor(1, shape[f][g], number),
        least_factor(2, summed(half(shape[f][f]), shape[g][turn]), number),
        least_factor(2, summed(half(shape[g][g]), shape[f][turn]), number),
        least_factor(3, summed(shape[f][turn], shape[g][turn]), number),
    ]
    return max([z for z in needed if z is not None], default=0)


# The least z for which times * z + entry is not below the number, None where the entry sets no bound.
def least_factor(times, entry, number):
    if entry is None:
        return None
    return -((entry - number) // times)
