"""Rings of sides: why no point keeps all sides of a list.

A leg (place, f, g) goes along the side at that place, from form f to form g; the next leg begins with
the flip of g. A walk is a tuple (sum, legs): what the numbers of the sides along its legs come to, and
the list of the legs. Walks from f to g stand at [f][g] of a list of lists, None where there is none.
"""

from eightsides.forms import flipped


def ring(count, sides):
    single = single_walks(count, sides)
    walks = standing_walks(count)
    # A walk from a form to its flip goes round. The first one found with a sum below 0 meets no form twice, or a
    # shorter part of it would have been found ahead: so no ring needs more legs than there are forms.
    for turn in range(2 * count):
        walks = [lengthened_row(row, single) for row in walks]
        found = ring_of_one(walks)
        if found is not None:
            return found
    return ring_of_two(walks)


def standing_walks(count):
    return [standing_row(f, 2 * count) for f in range(2 * count)]


def standing_row(f, length):
    return [(0, []) if g == flipped(f) else None for g in range(length)]


def single_walks(count, sides):
    single = [[None] * (2 * count) for f in range(2 * count)]
    for place, side in enumerate(sides):
        take_leg(single, (place, side[0], side[1]), side[2])
        take_leg(single, (place, side[1], side[0]), side[2])
    return single


def take_leg(single, leg, number):
    f = leg[1]
    g = leg[2]
    if is_less(number, single[f][g]):
        single[f][g] = (number, [leg])


def is_less(number, walk):
    return walk is None or number < walk[0]


def lengthened_row(row, single):
    return [lengthened(row, single, g) for g in range(len(row))]


# Among walks of one sum the one found first stays: it has the fewest legs.
def lengthened(row, single, g):
    best = row[g]
    for m, walk in enumerate(row):
        leg = single[flipped(m)][g]
        if walk is not None and leg is not None and is_less(walk[0] + leg[0], best):
            best = (walk[0] + leg[0], walk[1] + leg[1])
    return best


def ring_of_one(walks):
    for f in range(len(walks)):
        walk = walks[f][flipped(f)]
        if walk[0] < 0:
            return (walk[1], [])
    return None


def ring_of_two(walks):
    for f in range(len(walks)):
        first = walks[f][f]
        second = walks[flipped(f)][flipped(f)]
        if first is not None and second is not None and first[0] // 2 + second[0] // 2 < 0:
            return (first[1], second[1])
    return None
