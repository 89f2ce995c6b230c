"""Strips: the picture of a program on a canvas of any size."""

from heldfloods.charts import Chart
from heldfloods.checks import check_canvas, check_colour, check_side, is_colour, is_int_in
from heldfloods.edges import edge_parts
from heldfloods.errors import BadPixel
from heldfloods.grids import check_pixel
from heldfloods.pictures import Picture
from heldfloods.programs import check_flood
from heldfloods.rulers import cell_at


class Strips:
    """The picture of a program, in cells between its edges."""

    def __init__(self, program, width, height):
        check_canvas(width, height)
        things = (program,)
        across, down = edge_parts("across", things), edge_parts("down", things)
        board = Chart(things, across, down).board(width, height, 0)
        self._program = program
        self._board = board
        self._columns = tuple(board.across.ends)
        self._rows = tuple(board.down.ends)
        self.grid = tuple(board.lines(board.colours))

    @property
    def width(self):
        """How many pixels each row of pixels has."""
        return self._columns[-1]

    @width.setter
    def width(self, value):
        raise AttributeError("strips never change")

    @property
    def height(self):
        """How many rows of pixels there are."""
        return self._rows[-1]

    @height.setter
    def height(self, value):
        raise AttributeError("strips never change")

    @property
    def columns(self):
        """The ascending tuple of the edges of the cells, from 0 to the width."""
        return self._columns

    @property
    def rows(self):
        """The ascending tuple of the edges of the cells, from 0 to the height."""
        return self._rows

    def __getitem__(self, at):
        x, y = at
        if not (is_int_in(x, 0, self.width) and is_int_in(y, 0, self.height)):
            raise BadPixel(x, y)
        return int(self.grid[cell_at(self._rows, y)][cell_at(self._columns, x)])

    def __iter__(self):
        # Without this Python would ask for the items 0, 1 and so on, which are no pixels.
        raise TypeError("strips are not iterated over")

    def __contains__(self, x):
        return is_colour(x) and any([str(x) in row for row in self.grid])

    def colour_at(self, i, j):
        """The colour of a cell."""
        check_pixel(self.grid, i, j)
        return int(self.grid[j][i])

    def area(self, colour):
        """How many pixels have the colour."""
        check_colour(colour)
        wide, high = steps_of(self._columns), steps_of(self._rows)
        return sum([high[j] * wide[i] for i, j, found in self.cells() if found == colour])

    def regions(self, index):
        """For each time that the flood with this number has a region the ascending tuple of its cells."""
        check_flood(self._program, index)
        return [marked_cells(self._board.lines(region)) for region in self._board.found[index]]

    def cells(self):
        """Yields the tuples (i, j, colour) of the cells, by j and then by i."""
        for j, row in enumerate(self.grid):
            for i, sign in enumerate(row):
                yield i, j, int(sign)

    def picture(self):
        """The picture itself, if it is not greater than pictures are."""
        check_side(self.width, "width", Picture.MOST)
        check_side(self.height, "height", Picture.MOST)
        return Picture(stretched(self, list(range(self.width)), list(range(self.height))))

    def __eq__(self, other):
        return isinstance(other, Strips) and same_pictures(self, other)


def same_pictures(one, other):
    """Whether two Strips have one size, and each pixel the same colour."""
    if (one.width, one.height) != (other.width, other.height):
        return False
    # Between the edges of both, both have one colour.
    columns = merged(one.columns, other.columns)
    rows = merged(one.rows, other.rows)
    return stretched(one, columns, rows) == stretched(other, columns, rows)


def steps_of(ends):
    """How far each end of an ascending tuple is from the next one."""
    return [high - low for low, high in zip(ends, ends[1:])]


def marked_cells(marked):
    """The ascending tuple of the cells (i, j) that are not 0 in a grid."""
    return tuple([(i, j) for i in range(len(marked[0])) for j in range(len(marked)) if marked[j][i] != "0"])


def merged(one, other):
    """The ascending list of what is in two tuples of ends, without the last end of all."""
    return sorted(set([int(end) for end in one + other]))[:-1]


def stretched(strips, columns, rows):
    """The grid of the colours at all x of some columns and all y of some rows."""
    numbers = [cell_at(strips.columns, x) for x in columns]
    lines = ["".join([row[number] for number in numbers]) for row in strips.grid]
    return [lines[cell_at(strips.rows, y)] for y in rows]
