"""The parts of claims: for any other value each of these raises BadClaim with the name of the part."""

from heldfloods.boxes import Box
from heldfloods.checks import AXES, is_colour, is_int
from heldfloods.errors import BadClaim
from heldfloods.places import bounded_place


def claim_place(value, part):
    """The place that a value stands for."""
    place = bounded_place(value)
    check_part(place is not None, part)
    return place


def claim_colour(value):
    """The value itself, a colour."""
    check_part(is_colour(value), "colour")
    return value


def claim_box(value):
    """The value itself, a box."""
    check_part(isinstance(value, Box), "box")
    return value


def claim_axis(value):
    """The value itself, an axis."""
    check_part(value in AXES, "axis")
    return value


def claim_index(value):
    """The value itself, which may be the number of a flood."""
    check_part(is_int(value) and value >= 0, "index")
    return value


def check_part(fits, part):
    """Raises BadClaim for a part that does not fit."""
    if not fits:
        raise BadClaim(part)
