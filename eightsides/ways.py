"""Ways: which rows of a program lead to which, and by which deeds."""

from eightsides.blocks import partners
from eightsides.deeds import Ask, Go, Keep, Put
from eightsides.questions import turned


def ways(rows):
    found = []
    for at, partner in enumerate(partners(rows)):
        found.extend(ways_from(rows, at, partner))
    return found


def ways_from(rows, at, partner):
    word = rows[at][0]
    if word == "if":
        return parted_ways(at, rows[at][1], row_if_not(rows, partner))
    if word == "while":
        return parted_ways(at, rows[at][1], partner + 1)
    if word == "else" or (word == "end" and rows[partner][0] == "while"):
        return [(at, partner, Go())]
    return [(at, at + 1, onward_deed(rows[at]))]


def parted_ways(at, question, other):
    return [(at, at + 1, Keep(question)), (at, other, Keep(turned(question)))]


# The else itself leads past the rows behind it: it is come to only from the rows ahead of it.
def row_if_not(rows, partner):
    if rows[partner][0] == "else":
        return partner + 1
    return partner


# A claim, and the end of an if, change nothing.
def onward_deed(row):
    word = row[0]
    if word == "set":
        return Put(row[1], (row[2], row[3], row[4]))
    if word == "ask":
        return Ask(row[1], row[2], row[3])
    if word == "need":
        return Keep(row[1])
    return Go()
