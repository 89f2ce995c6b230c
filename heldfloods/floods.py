"""Floods: where they leak out of a box, and how far they reach."""

from heldfloods.atlases import Atlas
from heldfloods.boxes import Box
from heldfloods.charts import Chart, Survey
from heldfloods.checks import check_canvas
from heldfloods.claims import Held
from heldfloods.deeds import Flood
from heldfloods.edges import edge_parts, ordered, values_at
from heldfloods.errors import Fails, Gap, TooMany
from heldfloods.grids import way_out
from heldfloods.judge import No, judge
from heldfloods.pictures import Picture
from heldfloods.places import Place
from heldfloods.programs import check_flood, check_program, said_deeds

# The sign of the pixels of a region that lie outside of a box; it is 1 for the others, and 0 where the region is not.
OUTSIDE = "2"


class Leak:
    """A flood leaks out of a box on a canvas, by a path of pixels the last of which alone lies outside of the box."""

    def __init__(self, width, height, path):
        self.width = width
        self.height = height
        self.path = path

    @property
    def gap(self):
        """The last pixel of the path."""
        return self.path[-1]

    def __len__(self):
        return len(self.path)

    def __eq__(self, other):
        return (isinstance(other, Leak) and self.width == other.width and self.height == other.height
                and self.path == other.path)


def leak(program, index, box):
    """The least canvas on which a flood leaks out of a box, with a shortest way there; None if it never leaks."""
    check_program(program, 0)
    check_flood(program, index)
    # Held raises BadClaim for what is no box.
    verdict = judge(program, Held(index, box))
    if not isinstance(verdict, No):
        return None
    if verdict.width > Picture.MOST or verdict.height > Picture.MOST:
        raise TooMany("pixels", Picture.MOST)
    return leak_on(program, index, box, verdict.width, verdict.height)


def leak_on(program, index, box, width, height):
    """The Leak on a canvas on which the flood leaks."""
    things = program, Held(index, box)
    chart = Chart(things, edge_parts("across", things), edge_parts("down", things))
    board = chart.board(width, height, 0)
    inside = board.patch(chart.behind)
    region = [cells for cells in board.found[index] if cells & ~inside][0]
    columns, rows = chart.ends_on(width, height)
    signs = stretched_lines(board.lines(region + (region & ~inside)), columns, rows)
    return Leak(width, height, way_out(signs, pixel_of(program, index, width, height), OUTSIDE))


def pixel_of(program, index, width, height):
    """The pixel of a flood on a canvas; it may be none there."""
    flood = [deed for deed in said_deeds(program.deeds) if isinstance(deed, Flood)][index]
    return flood.x(width), flood.y(height)


def stretched_lines(lines, columns, rows):
    """The grid of pixels for a grid of cells between the ends of columns and of rows."""
    found = []
    for line, top, foot in zip(lines, rows, rows[1:]):
        row = "".join([sign * (end - begin) for sign, begin, end in zip(line, columns, columns[1:])])
        found.extend([row] * (foot - top))
    return found


def need_held(program, index, box):
    """Raises Fails with the canvas of the leak of a flood out of a box, from Gap with its gap, if there is one."""
    found = leak(program, index, box)
    if found is not None:
        x, y = found.gap
        raise Fails(found.width, found.height) from Gap(x, y)


def reach(program, index, width, height):
    """The four sides of the least box that has all regions of a flood on a canvas; None if there is no region."""
    check_program(program, 0)
    check_flood(program, index)
    check_canvas(width, height)
    things = (program,)
    chart = Chart(things, edge_parts("across", things), edge_parts("down", things))
    sides = cell_bounds(chart.board(width, height, 0), index)
    if sides is None:
        return None
    left, right, top, foot = sides
    columns, rows = chart.ends_on(width, height)
    return columns[left], columns[right], rows[top], rows[foot]


def reaches(program, index):
    """Yields (widths, heights, box) for the pairs of a program: the box is the reach of a flood there, or None."""
    check_program(program, 0)
    check_flood(program, index)
    yield from all_reaches(program, index)


def all_reaches(program, index):
    """The list of what `reaches` yields: no error may come behind a part of it."""
    atlas = Atlas((program,))
    chart = atlas.chart
    survey = Survey(chart, lambda width, height: cell_bounds(chart.board(width, height, 0), index))
    across, down = ordered(atlas.across), ordered(atlas.down)
    columns = {sizes.low: first_places(across, sizes.low) for sizes in atlas.widths}
    rows = {sizes.low: first_places(down, sizes.low) for sizes in atlas.heights}
    found = []
    for wide, high in atlas.pages:
        sides = survey.seen(wide.low, high.low)
        found.append((wide, high, box_of(sides, columns[wide.low], rows[high.low])))
    return found


def box_of(sides, columns, rows):
    """The box with the numbers of its columns and rows at its sides; None for None."""
    if sides is None:
        return None
    left, right, top, foot = sides
    return Box(columns[left], columns[right], rows[top], rows[foot])


def cell_bounds(board, index):
    """The numbers of the first column of all regions of a flood, of the one behind it, and so of the rows; or None."""
    cells = 0
    for region in board.found[index]:
        cells = cells | region
    return board.bounds(cells) if cells else None


def first_places(rows, size):
    """The ascending list of the ends of all cells at a size, each as the first of some edges that is so there."""
    found = {}
    for parts, value in zip(rows, values_at(rows, size)):
        if 0 <= value <= size and value not in found:
            found[value] = Place(*parts)
    return [found[value] for value in sorted([int(key) for key in found])]
