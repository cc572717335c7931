"""Questions: a tuple (f, g, word, c) that asks how a sum of forms stands to the number c.

The sum is worth f + worth g, or worth f alone where g is None. The word is "most" (not above c),
"least" (not below c), "same" (c) or "unlike" (not c).
"""

from eightsides.forms import flipped, total


def holds(point, question):
    come_to = total(point, sum_forms(question))
    word = question[2]
    c = question[3]
    if word == "most":
        return come_to <= c
    if word == "least":
        return come_to >= c
    if word == "same":
        return come_to == c
    return come_to != c


def sum_forms(question):
    if question[1] is None:
        return [question[0]]
    return [question[0], question[1]]


def turned(question):
    f = question[0]
    g = question[1]
    word = question[2]
    c = question[3]
    if word == "most":
        return (f, g, "least", c + 1)
    if word == "least":
        return (f, g, "most", c - 1)
    if word == "same":
        return (f, g, "unlike", c)
    return (f, g, "same", c)


def cases(question):
    word = question[2]
    c = question[3]
    if word == "most":
        return [[most_side(question, c)]]
    if word == "least":
        return [[least_side(question, c)]]
    if word == "same":
        return [[most_side(question, c), least_side(question, c)]]
    return [[most_side(question, c - 1)], [least_side(question, c + 1)]]


# A side always has two forms: a form alone stands twice in it, and the number is doubled with it.
def most_side(question, number):
    if question[1] is None:
        return (question[0], question[0], 2 * number)
    return (question[0], question[1], number)


# A side knows no least: that a sum is not below a number is said of the sum with its sign turned.
def least_side(question, number):
    most = most_side(question, number)
    return (flipped(most[0]), flipped(most[1]), -most[2])
