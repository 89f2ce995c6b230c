"""Boxes, told by four places."""

from heldfloods.checks import check_size, is_int
from heldfloods.errors import BadPlace
from heldfloods.places import checked_place, from_left, from_right


class Box:
    """The pixels with x from x0 to x1 and y from y0 to y1, the ends left out."""

    def __init__(self, x0, x1, y0, y1):
        self.x0 = checked_place(x0, "x0")
        self.x1 = checked_place(x1, "x1")
        self.y0 = checked_place(y0, "y0")
        self.y1 = checked_place(y1, "y1")

    def __call__(self, width, height):
        check_size(width, "width")
        check_size(height, "height")
        return self.x0(width), self.x1(width), self.y0(height), self.y1(height)

    def __invert__(self):
        return Box(~self.x1, ~self.x0, self.y0, self.y1)

    def __eq__(self, other):
        return isinstance(other, Box) and box_places(self) == box_places(other)

    def __str__(self):
        return " ".join([str(place) for place in box_places(self)])

    @staticmethod
    def whole():
        """The box of the whole canvas."""
        return Box(from_left(), from_right(), from_left(), from_right())

    @classmethod
    def inside(cls, margin):
        """The box that leaves a margin on all four sides."""
        if not is_int(margin):
            raise BadPlace("margin")
        begin, end = from_left(margin), from_right(margin)
        return cls(begin, end, begin, end)


def box_places(box):
    """The four places of a box."""
    return box.x0, box.x1, box.y0, box.y1


def box_ends(box, axis):
    """The begin and the end of a box on an axis."""
    return (box.x0, box.x1) if axis == "across" else (box.y0, box.y1)
