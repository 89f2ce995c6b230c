"""Canvases, which can be painted."""

from heldfloods.checks import check_colour, check_side
from heldfloods.errors import Unlike
from heldfloods.grids import MARK, check_pixel, is_pixel, marked_region, painted
from heldfloods.grids import copied_rows, filled_rows, flipped_rows, grown_rows, swapped_rows
from heldfloods.pictures import Picture


class Trial:
    """A block behind which a canvas shows again what it showed when the block began."""

    def __init__(self, canvas):
        self._canvas = canvas
        self._rows = []

    def __enter__(self):
        self._rows = list(self._canvas.shown.rows)
        return self._canvas

    def __exit__(self, kind, value, trace):
        canvas = self._canvas
        canvas._rows = self._rows


class Canvas:
    """Pixels that can be painted, all of the colour 0 at first."""

    MOST = 200

    def __init__(self, width, height):
        check_side(width, "width", Canvas.MOST)
        check_side(height, "height", Canvas.MOST)
        self._rows = ["0" * width] * height

    @property
    def width(self):
        """How many pixels each row has."""
        return len(self._rows[0])

    @width.setter
    def width(self, value):
        raise AttributeError("a canvas keeps its size")

    @property
    def height(self):
        """How many rows there are."""
        return len(self._rows)

    @height.setter
    def height(self, value):
        raise AttributeError("a canvas keeps its size")

    def __getitem__(self, at):
        x, y = at
        check_pixel(self._rows, x, y)
        return int(self._rows[y][x])

    def __setitem__(self, at, worth):
        x, y = at
        check_pixel(self._rows, x, y)
        check_colour(worth)
        self._rows[y] = painted(self._rows[y], x, x + 1, str(worth))

    def __iter__(self):
        # Without this Python would ask for the items 0, 1 and so on, which are no pixels.
        raise TypeError("a canvas is not iterated over")

    def picture(self):
        """The picture that the canvas shows now."""
        return Picture(self._rows)

    @property
    def shown(self):
        """The picture that the canvas shows now."""
        return self.picture()

    @shown.setter
    def shown(self, value):
        self.show(value)

    def show(self, picture):
        """Makes the canvas show a picture of its size."""
        if (picture.width, picture.height) != (self.width, self.height):
            raise Unlike()
        self._rows = list(picture.rows)

    def __ior__(self, other):
        if not isinstance(other, Picture):
            return NotImplemented
        self.show(other | self.picture())
        return self

    def fill(self, x0, x1, y0, y1, colour):
        """Fills the box with these four integers."""
        check_colour(colour)
        self._rows = filled_rows(self._rows, x0, x1, y0, y1, colour)

    def flood(self, x, y, colour):
        """Floods from a pixel, and returns how many pixels its region has; 0 for what is no pixel."""
        check_colour(colour)
        if not is_pixel(self._rows, x, y):
            return 0
        marked = marked_region(self._rows, x, y)
        self._rows = [row.replace(MARK, str(colour)) for row in marked]
        return sum([row.count(MARK) for row in marked])

    def has(self, x, y, colour):
        """Whether what has these two integers is a pixel with the colour."""
        return is_pixel(self._rows, x, y) and self._rows[y][x] == str(colour)

    def copy_box(self, box, right, down):
        """Copies the box with these four integers so far to the right and so far down."""
        self._rows = copied_rows(self._rows, box, right, down)

    def flip(self, axis):
        """Flips all pixels along an axis."""
        self._rows = flipped_rows(self._rows, axis)

    def swap(self, one, other):
        """Gives the pixels of two colours the other one of the two."""
        self._rows = swapped_rows(self._rows, one, other)

    def grow(self, colour):
        """Gives the neighbours of all pixels of a colour this colour."""
        self._rows = grown_rows(self._rows, colour)

    def trial(self):
        """For a `with`: behind its block the canvas shows again what it showed when the block began."""
        return Trial(self)

    def tried(self, work):
        """What work returns of the canvas, which then shows again what it showed ahead of it."""
        with self.trial() as same:
            return work(same)

    def __eq__(self, other):
        return isinstance(other, Canvas) and self._rows == other._rows
