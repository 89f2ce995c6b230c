"""Pictures: colours in rows, which never change."""

from heldfloods.checks import check_axis, check_colour, check_side, is_colour
from heldfloods.errors import BadPicture, BadText, Unlike
from heldfloods.grids import check_pixel, flipped_rows, region_pixels, shortest_way, wrong_row


class Picture:
    """What a canvas shows: rows of digits, one for each pixel."""

    MOST = 200

    def __init__(self, rows):
        if not isinstance(rows, (list, tuple)) or not 1 <= len(rows) <= Picture.MOST:
            raise BadPicture(None)
        wrong = wrong_row(rows, Picture.MOST)
        if wrong is not None:
            raise BadPicture(wrong)
        self._rows = tuple(rows)

    @staticmethod
    def plain(width, height, colour=0):
        """The picture of this size that has one colour alone."""
        check_side(width, "width", Picture.MOST)
        check_side(height, "height", Picture.MOST)
        check_colour(colour)
        return Picture([str(colour) * width] * height)

    @property
    def rows(self):
        """The tuple of the rows, from the top."""
        return self._rows

    @property
    def width(self):
        """How many pixels each row has."""
        return len(self._rows[0])

    @width.setter
    def width(self, value):
        raise AttributeError("a picture never changes")

    @property
    def height(self):
        """How many rows there are."""
        return len(self._rows)

    @height.setter
    def height(self, value):
        raise AttributeError("a picture never changes")

    def __getitem__(self, at):
        x, y = at
        check_pixel(self._rows, x, y)
        return int(self._rows[y][x])

    def __iter__(self):
        # Without this Python would ask for the items 0, 1 and so on, which are no pixels.
        raise TypeError("a picture is not iterated over")

    def __contains__(self, x):
        return is_colour(x) and any([str(x) in row for row in self._rows])

    def area(self, colour):
        """How many pixels have the colour."""
        check_colour(colour)
        return sum([row.count(str(colour)) for row in self._rows])

    def __eq__(self, other):
        return isinstance(other, Picture) and self._rows == other.rows

    def __le__(self, other):
        if not isinstance(other, Picture):
            return NotImplemented
        return all([lies_within(row, whole) for row, whole in row_pairs(self, other)])

    def __lt__(self, other):
        if not isinstance(other, Picture):
            return NotImplemented
        return self <= other and not self == other

    def __ge__(self, other):
        if not isinstance(other, Picture):
            return NotImplemented
        return other <= self

    def __gt__(self, other):
        if not isinstance(other, Picture):
            return NotImplemented
        return other < self

    def __or__(self, other):
        if not isinstance(other, Picture):
            return NotImplemented
        return Picture([laid_over(row, under) for row, under in row_pairs(self, other)])

    def __and__(self, other):
        if not isinstance(other, Picture):
            return NotImplemented
        return Picture([what_agrees(row, under) for row, under in row_pairs(self, other)])

    def __xor__(self, other):
        if not isinstance(other, Picture):
            return NotImplemented
        return Picture([what_differs(row, under) for row, under in row_pairs(self, other)])

    def __ior__(self, other):
        return self | other

    def __iand__(self, other):
        return self & other

    def __ixor__(self, other):
        return self ^ other

    def flipped(self, axis):
        """The picture flipped across or down."""
        check_axis(axis)
        return Picture(flipped_rows(self._rows, axis))

    def __invert__(self):
        return self.flipped("across")

    def region(self, x, y):
        """The pixels that hang together with a pixel in its colour, in order."""
        check_pixel(self._rows, x, y)
        return region_pixels(self._rows, x, y)

    def way(self, x, y, to_x, to_y):
        """Pixels of one region from one pixel to another, as few as any; None if they are in two regions."""
        check_pixel(self._rows, x, y)
        check_pixel(self._rows, to_x, to_y)
        return shortest_way(self._rows, (x, y), (to_x, to_y))

    def __str__(self):
        return "\n".join(self._rows)

    @classmethod
    def read(cls, text):
        """The picture with this text."""
        if not isinstance(text, str):
            raise BadText(0, 0)
        lines = text.split("\n")
        wrong = wrong_row(lines[:cls.MOST], cls.MOST)
        if wrong is not None:
            raise BadText(wrong, 0)
        if len(lines) > cls.MOST:
            raise BadText(cls.MOST, 0)
        return cls(lines)


def row_pairs(one, other):
    """The list of the pairs of rows of two pictures; raises Unlike if they have two sizes."""
    if (one.width, one.height) != (other.width, other.height):
        raise Unlike()
    return list(zip(one.rows, other.rows))


def lies_within(row, whole):
    """Whether each pixel of a row that is not 0 has the same colour in the whole."""
    return all([sign in ("0", beside) for sign, beside in zip(row, whole)])


def laid_over(row, under):
    """The pixels of a row, and those under it where it has 0."""
    return "".join([below if sign == "0" else sign for sign, below in zip(row, under)])


def what_agrees(row, under):
    """The colours that two rows have at the same pixels, and 0 elsewhere."""
    return "".join([sign if sign == below else "0" for sign, below in zip(row, under)])


def what_differs(row, under):
    """A row laid over another one, with 0 where both have one colour."""
    laid = laid_over(row, under)
    return "".join(["0" if sign == below else upper for sign, below, upper in zip(row, under, laid)])
