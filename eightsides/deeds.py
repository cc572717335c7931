"""Deeds: what is done at a point, with an asked number, and makes a point or cannot be done there."""

from eightsides.changes import amount_at, asked, filled, put, reaching_by_put, with_number
from eightsides.closing import held_by_all
from eightsides.entries import below
from eightsides.joins import copied, join
from eightsides.points import reaching
from eightsides.questions import cases, holds


class Deed:
    def asks(self):
        return False


class Go(Deed):
    def done(self, point, number):
        return point

    def image(self, shape):
        return copied(shape)

    def source(self, shape, f, g, number):
        return with_any_number(reaching(shape, [f, g], number))


class Keep(Deed):
    def __init__(self, question):
        self.question = question

    def done(self, point, number):
        if holds(point, self.question):
            return point
        return None

    def image(self, shape):
        whole = None
        for case in cases(self.question):
            whole = join(whole, held_by_all(shape, case))
        return whole

    # The image holds points between the cases too, at which the question does not hold: so each case is asked alone.
    def source(self, shape, f, g, number):
        for case in cases(self.question):
            point = reaching(held_by_all(shape, case), [f, g], number)
            if point is not None:
                return with_any_number(point)
        return None


class Put(Deed):
    def __init__(self, k, amount):
        self.k = k
        self.amount = amount

    def done(self, point, number):
        return with_number(point, self.k, amount_at(point, self.amount))

    def image(self, shape):
        return put(shape, self.k, self.amount)

    def source(self, shape, f, g, number):
        return with_any_number(reaching_by_put(shape, self.k, self.amount, f, g, number))


class Ask(Deed):
    def __init__(self, k, low, high):
        self.k = k
        self.low = low
        self.high = high

    def asks(self):
        return True

    def done(self, point, number):
        return with_number(point, self.k, self.between_ends(number))

    def between_ends(self, number):
        if self.low is not None and number < self.low:
            return self.low
        if below(self.high, number):
            return self.high
        return number

    def image(self, shape):
        return asked(shape, self.k, self.low, self.high)

    # Whichever point lies in the image, some point of the shape is like it but at k.
    def source(self, shape, f, g, number):
        made = reaching(self.image(shape), [f, g], number)
        if made is None:
            return None
        return (with_number(made, self.k, filled(shape, made, self.k)), made[self.k])


# Of a source for a deed that does not ask: the number is not looked at.
def with_any_number(point):
    if point is None:
        return None
    return (point, 0)
