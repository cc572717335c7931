"""Steps: the few numbers to which the entries of a table go up when it is widened."""

from eightsides.entries import above, least


# [f][f] bounds a form twice: so steps that are meant for a form alone are doubled there, and it stays even.
def step_over(steps, f, g, entry):
    heights = [2 * step for step in steps] if f == g else steps
    return least([height for height in heights if not above(entry, height)])


def widened(table, shape, steps):
    return [widened_row(f, row, shape[f], steps) for f, row in enumerate(table)]


def widened_row(f, row, shape_row, steps):
    new = []
    for g, entry in enumerate(row):
        if above(shape_row[g], entry):
            new.append(step_over(steps, f, g, shape_row[g]))
        else:
            new.append(entry)
    return new
