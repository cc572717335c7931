"""Blocks: which rows of a program belong together, from an if or while to the end that closes it."""

from eightsides.errors import NoBlock


def partners(rows):
    found = [None for row in rows]
    opened = []
    for at, row in enumerate(rows):
        word = row[0]
        if word == "if" or word == "while":
            opened.append(at)
        elif word == "else":
            if not may_have_else(rows, found, opened):
                raise NoBlock(at)
            found[opened[-1]] = at
        elif word == "end":
            if len(opened) == 0:
                raise NoBlock(at)
            close(found, opened.pop(), at)
    if len(opened) > 0:
        raise NoBlock(opened[-1])
    return found


# Until its end comes, only an else has been found for an if.
def may_have_else(rows, found, opened):
    return len(opened) > 0 and rows[opened[-1]][0] == "if" and found[opened[-1]] is None


def close(found, start, end):
    found[end] = start
    if found[start] is None:
        found[start] = end
    else:
        found[found[start]] = end
