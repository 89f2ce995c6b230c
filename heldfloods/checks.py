"""What values are: integers, sizes, colours and axes."""

from heldfloods.errors import BadColour, BadDeed, BadSize

AXES = ("across", "down")
GREATEST = 10 ** 40


def is_int(value):
    """Whether any value is an integer; True and False are none."""
    return isinstance(value, int) and not isinstance(value, bool)


def is_int_in(value, low, beyond):
    """Whether any value is an integer from low on and less than beyond."""
    return is_int(value) and low <= value < beyond


def is_colour(value):
    """Whether any value is a colour."""
    return is_int_in(value, 0, 10)


def check_colour(value):
    """Raises BadColour for any value that is no colour."""
    if not is_colour(value):
        raise BadColour(value)


def check_size(value, part):
    """Raises BadSize with the name of the part for any value that is no size."""
    if not is_int(value) or value < 1:
        raise BadSize(part)


def check_side(value, part, most):
    """Raises BadSize with the name of the part for any value that is no size up to the most."""
    if not is_int_in(value, 1, most + 1):
        raise BadSize(part)


def check_canvas(width, height):
    """Raises BadSize for the first of any two values that is no size of a canvas, however great it may be."""
    check_side(width, "width", GREATEST)
    check_side(height, "height", GREATEST)


def check_axis(value):
    """Raises BadDeed for any value that is no axis."""
    if value not in AXES:
        raise BadDeed("axis")
