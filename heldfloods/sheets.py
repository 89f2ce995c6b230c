"""Sheets: canvases of any size, painted by cells, between edges within which all pixels have one colour."""

from heldfloods.grids import MARK, clipped, filled_rows, grown_rows, marked_region, swapped_rows


class Ruler:
    """Where edges stand on one axis at a size: they part it into cells, numbered from 0."""

    def __init__(self, size, values):
        self.size = size
        self.ends = sorted(set([int(value) for value in values if 0 <= value <= size]))
        self.numbers = {end: at for at, end in enumerate(self.ends)}
        # Which cell comes to each cell if all is flipped.
        self.turned = [cell_at(self.ends, size - 1 - end) for end in self.ends[:-1]]
        self._kept = {}

    def span(self, begin, end):
        """The numbers of the cells from one edge to another, as begin and end; what lies outside is cut off."""
        begin, end = clipped(begin, end, self.size)
        if begin >= end:
            return 0, 0
        return self.numbers[begin], self.numbers[end]

    def moved(self, begin, end, by):
        """The first cell to which something comes if what is between two edges is moved; and what comes from there on.

        It is asked for each canvas of this size anew, so it is kept.
        """
        key = (begin, end, by)
        if key not in self._kept:
            begin, end = clipped(begin, end, self.size)
            first, last = self.span(begin + by, end + by)
            self._kept[key] = first, [cell_at(self.ends, at - by) for at in self.ends[first:last]]
        return self._kept[key]


class Sheet:
    """A canvas of any size, with one sign for each cell.

    The edges are those of all that is done to it (and perhaps more), so that ahead of each deed, and behind it, all
    pixels of a cell have one colour.
    """

    def __init__(self, across, down):
        self.across = across
        self.down = down
        self.width = across.size
        self.height = down.size
        self.grid = ["0" * (len(across.ends) - 1)] * (len(down.ends) - 1)

    def has(self, x, y, colour):
        """Whether what has these two integers is a pixel with the colour; they are edges."""
        return self.contains(x, y) and self.grid[self.down.numbers[y]][self.across.numbers[x]] == str(colour)

    def contains(self, x, y):
        """Whether two integers are a pixel."""
        return 0 <= x < self.width and 0 <= y < self.height

    def cells_of(self, box):
        """The numbers of the cells of the box with these four integers, as begin and end on both axes."""
        left, right = self.across.span(box[0], box[1])
        top, foot = self.down.span(box[2], box[3])
        return left, right, top, foot

    def fill(self, x0, x1, y0, y1, colour):
        """Fills the box with these four integers."""
        left, right, top, foot = self.cells_of((x0, x1, y0, y1))
        self.grid = filled_rows(self.grid, left, right, top, foot, colour)

    def flood(self, x, y, colour):
        """Floods from a pixel, and returns the grid with MARK at all cells of its region; None for what is no pixel."""
        if not self.contains(x, y):
            return None
        marked = marked_region(self.grid, self.across.numbers[x], self.down.numbers[y])
        self.grid = [row.replace(MARK, str(colour)) for row in marked]
        return marked

    def copy_box(self, box, right, down):
        """Copies the box with these four integers so far to the right and so far down."""
        left, columns = self.across.moved(box[0], box[1], right)
        top, rows = self.down.moved(box[2], box[3], down)
        behind = left + len(columns)
        new = list(self.grid)
        for at, source in enumerate(rows):
            old = self.grid[top + at]
            new[top + at] = old[:left] + picked(self.grid[source], columns) + old[behind:]
        self.grid = new

    def flip(self, axis):
        """Flips all pixels along an axis."""
        self.grid = self.flipped(axis)

    def flipped(self, axis):
        """The grid of the canvas flipped along an axis."""
        if axis == "across":
            return [picked(row, self.across.turned) for row in self.grid]
        return [self.grid[at] for at in self.down.turned]

    def swap(self, one, other):
        """Gives the pixels of two colours the other one of the two."""
        self.grid = swapped_rows(self.grid, one, other)

    def grow(self, colour):
        """Gives the neighbours of all pixels of a colour this colour."""
        # A cell beside one of another colour is one pixel wide here, since Grow adds edges next to each edge.
        self.grid = grown_rows(self.grid, colour)


def cell_at(ends, value):
    """The number of the cell that contains a value, for the ascending list of the ends of all cells."""
    low, high = 0, len(ends) - 1
    while high - low > 1:
        middle = (low + high) // 2
        if ends[middle] <= value:
            low = middle
        else:
            high = middle
    return low


def picked(row, columns):
    """The signs of a row at some indexes."""
    return "".join([row[at] for at in columns])
