"""Climbs: a shape that grows until it holds all shapes that were taken, and that can grow only so many times."""

from eightsides.closing import tightened, wide
from eightsides.compare import within
from eightsides.joins import copied
from eightsides.steps import widened


class Climb:
    def __init__(self, count, steps, patience):
        self.count = count
        self.steps = list(steps)
        self.patience = patience
        self.kept = None
        self.reached = None
        self.risen = 0

    # The kept table itself is not tightened: an entry that was lowered would have to go up the same steps again.
    def take(self, shape):
        if within(shape, self.reached):
            return False
        self.risen = self.risen + 1
        self.kept = self.next_table(shape)
        self.reached = tightened(self.kept)
        return True

    def next_table(self, shape):
        if self.risen >= self.patience:
            return wide(self.count)
        if self.kept is None:
            return copied(shape)
        return widened(self.kept, shape, self.steps)

    def shape(self):
        return copied(self.reached)

    def rises(self):
        return self.risen
