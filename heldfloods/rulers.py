"""Rulers: where edges stand on one axis at a size, and the cells between them, numbered from 0."""

from heldfloods.edges import values_at
from heldfloods.grids import clipped

# How many bits each cell of a board has, and all of them: so many does a colour need.
BITS = 4
FULL = 15


class Ruler:
    """The cells of one axis; each cell of a board is this many bits, the step, behind the cell ahead of it.

    A set of cells is an integer with the lowest bit of each of them.
    """

    def __init__(self, axis, size, ends, step):
        self.axis = axis
        self.size = size
        self.ends = ends
        self.step = step
        self.numbers = {end: at for at, end in enumerate(ends)}
        # The sets of the first cells: of none, of one, and so on.
        self.sums = [0]
        for at in range(len(ends) - 1):
            self.sums.append(self.sums[at] | 1 << at * step)
        self.every = self.sums[-1]

    def point(self, place):
        """How many bits are ahead of the cell at a place; -1 if no pixel is there."""
        at = place(self.size)
        return self.numbers[at] * self.step if 0 <= at < self.size else -1

    def span(self, begin, end):
        """The set of the cells from one place to another; what lies outside is cut off."""
        first, last = clipped(begin(self.size), end(self.size), self.size)
        return self.between(first, last)

    def between(self, first, last):
        """The set of the cells between two edges."""
        if first >= last:
            return 0
        return self.sums[self.numbers[last]] ^ self.sums[self.numbers[first]]

    def copied(self, begin, end, target):
        """What copies the cells from one place to another one to a target: the set of those there, and shifts."""
        start = begin(self.size)
        by = target(self.size) - start
        first, last = clipped(start, end(self.size), self.size)
        first, last = clipped(first + by, last + by, self.size)
        if first >= last:
            return 0, ()
        at = self.numbers[first]
        sources = [cell_at(self.ends, edge - by) for edge in self.ends[at:self.numbers[last]]]
        return self.between(first, last), self.sourced(at, sources)

    def turned(self):
        """The shifts that flip all cells."""
        return self.sourced(0, [cell_at(self.ends, self.size - 1 - edge) for edge in self.ends[:-1]])

    def sourced(self, at, sources):
        """The shifts that bring some cells to the cells from a number on.

        Each tells how many bits ahead of a target its source is, and all bits of the targets for which this is so.
        """
        found = {}
        for source in sources:
            back = (source - at) * self.step
            found[back] = found.get(back, 0) | FULL << at * self.step
            at = at + 1
        return tuple([(back, bits) for back, bits in found.items()])


def ends_at(rows, size):
    """The ascending list of the ends of all cells that some edges make at a size."""
    return sorted(set([int(value) for value in values_at(rows, size) if 0 <= value <= size]))


def cell_at(ends, value):
    """The number of the cell that contains a value, for the ascending list of the ends of all cells."""
    low, high = 0, len(ends) - 1
    while high - low > 1:
        middle = (low + high) // 2
        if ends[middle] <= value:
            low = middle
        else:
            high = middle
    return low
