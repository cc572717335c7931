"""Deeds told as tuples, ("go",), ("keep", question), ("put", k, amount) or ("ask", k, low, high), and what they make,
found without the package."""

from eightsides.deeds import Ask, Go, Keep, Put
from tests.counting import sum_of, thrown_sides
from tests.samples import HUGE, WORDS, flips


def deed_of(spec):
    """The package's deed."""
    return {"go": Go, "keep": Keep, "put": Put, "ask": Ask}[spec[0]](*spec[1:])


def answer_at(point, question):
    f, g, word, c = question
    come_to = sum_of(point, [f] if g is None else [f, g])
    return {"most": come_to <= c, "least": come_to >= c, "same": come_to == c, "unlike": come_to != c}[word]


def counted_amount(point, amount):
    f, g, c = amount
    return sum_of(point, [form for form in (f, g) if form is not None]) + c


def changed(point, k, number):
    numbers = list(point)
    numbers[k] = number
    return tuple(numbers)


def clamped(number, low, high):
    if low is not None:
        number = max(number, low)
    if high is not None:
        number = min(number, high)
    return number


def made(spec, point, number):
    """The point that the deed makes, or None."""
    if spec[0] == "keep":
        return point if answer_at(point, spec[1]) else None
    if spec[0] == "put":
        return changed(point, spec[1], counted_amount(point, spec[2]))
    if spec[0] == "ask":
        return changed(point, spec[1], clamped(number, spec[2], spec[3]))
    return point


def all_made(spec, points, size):
    """All points that the deed makes of some points, with asked numbers that are not further than size from 0."""
    numbers = [0]
    if spec[0] == "ask":
        numbers = range(clamped(-size, spec[2], spec[3]), clamped(size, spec[2], spec[3]) + 1)
    after = {made(spec, point, number) for point in points for number in numbers}
    return sorted(after - {None})


def amounts(dice, count, k, low, high):
    """Amounts of no form, of one and of two, alike and flips, in which the number at k stands and does not stand."""
    f, g = dice.below(2 * count), dice.below(2 * count)
    own, flip = 2 * k, 2 * k + 1
    forms = [
        (None, None), (f, None), (own, None), (flip, None), (f, g), (f, f), (f, flips(count)[f]),
        (own, f), (g, own), (flip, g), (f, flip), (own, own), (flip, flip), (own, flip), (flip, own),
    ]
    return [(one, other, dice.between(low, high)) for one, other in forms]


def asks(dice, k, low, high):
    """Asks at k with both ends, alike ones too, with one and with none."""
    one, other = sorted([dice.between(low, high), dice.between(low, high)])
    ends = [(one, other), (one, one), (one, None), (None, other), (None, None)]
    return [("ask", k, low_end, high_end) for low_end, high_end in ends]


def questions(dice, point, slack):
    """Questions of one form and of two, alike and flips among them, whose numbers are near their sums at the point."""
    count = len(point)
    (f, g, shift), = thrown_sides(dice, count, 1, -slack, slack)
    pairs = [(f, None), (g, None), (f, g), (g, g), (f, flips(count)[f])]
    found = []
    for one, other in pairs:
        come_to = sum_of(point, [one] if other is None else [one, other])
        found.extend([(one, other, word, come_to + shift) for word in WORDS])
    return found


def specs(dice, point, slack):
    """Deeds of all four kinds, at a thrown name, with numbers near those of the point."""
    count = len(point)
    k = dice.below(count)
    reach = min(abs(point[k]), HUGE) + slack
    found = [("go",)]
    found.extend([("keep", question) for question in questions(dice, point, slack)])
    found.extend([("put", k, amount) for amount in amounts(dice, count, k, -reach, reach)])
    found.extend(asks(dice, k, -reach, reach))
    return found
