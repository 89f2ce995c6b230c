"""Playing programs: what was done, and what was seen of it, in the order of time."""

from heldfloods.canvases import Canvas
from heldfloods.deeds import Flood
from heldfloods.grids import is_pixel, region_pixels
from heldfloods.programs import check_flood, check_program
from heldfloods.steps import Steps


def play(program, canvas):
    """Does the deeds of a program to a canvas, and returns how many were done that are no Again and no When."""
    check_program(program, 0)
    steps = Steps(program, canvas)
    many = 0
    step = steps.coming()
    while step is not None:
        step[0].on(canvas)
        many = many + 1
        step = steps.coming()
    return many


def frames(program, width, height):
    """Yields the picture ahead of all deeds, and that behind each one that is no Again and no When."""
    check_program(program, 0)
    canvas = Canvas(width, height)
    steps = Steps(program, canvas)
    yield canvas.picture()
    step = steps.coming()
    while step is not None:
        step[0].on(canvas)
        yield canvas.picture()
        step = steps.coming()


def regions_at(program, width, height, index):
    """The list of the regions of the flood with this number, one for each time that it is done at a pixel."""
    check_program(program, 0)
    canvas = Canvas(width, height)
    check_flood(program, index)
    steps = Steps(program, canvas)
    found = []
    step = steps.coming()
    while step is not None:
        deed, number = step
        if isinstance(deed, Flood) and number == index:
            rows, x, y = canvas.shown.rows, deed.x(width), deed.y(height)
            if is_pixel(rows, x, y):
                found.append(region_pixels(rows, x, y))
        deed.on(canvas)
        step = steps.coming()
    return found
