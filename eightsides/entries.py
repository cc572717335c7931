"""Entries of tables: whole numbers, or None where there is no greatest, which counts as above all numbers."""


def below(entry, number):
    return entry is not None and entry < number


def above(one, other):
    if one is None:
        return other is not None
    return below(other, one)


def lesser(one, other):
    if one is None:
        return other
    if other is None or one <= other:
        return one
    return other


def greater(one, other):
    if one is None or other is None:
        return None
    return max(one, other)


def least(entries):
    return min([entry for entry in entries if entry is not None], default=None)


def summed(one, other):
    if one is None or other is None:
        return None
    return one + other


# Rounded down: what is bounded by half of an entry is a whole number.
def half(entry):
    if entry is None:
        return None
    return entry // 2
