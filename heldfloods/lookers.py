"""Lookers: whether what other functions tell is so. They search nothing, and refuse no value, but tell False."""

from heldfloods.alike import lost_cells, parted_cells
from heldfloods.charts import Chart, Survey
from heldfloods.checks import GREATEST, is_int, is_int_in
from heldfloods.classes import MOST, class_begins
from heldfloods.edges import edge_parts
from heldfloods.floods import pixel_of
from heldfloods.pictures import Picture
from heldfloods.places import parts_of
from heldfloods.walls import choices, left_of


def is_cover(places, rows):
    """Whether rows, any value, are rows of sizes, each size in one of them, with the places in one order in each."""
    return covers([parts_of(place) for place in places], rows)


def covers(edges, rows):
    """The same for places that are told by their three integers."""
    if not (isinstance(rows, (list, tuple)) and len(rows) <= MOST and all([is_row_of_sizes(row) for row in rows])):
        return False
    if not (has_each_size(rows, 1) and has_each_size(rows, 0)):
        return False
    lows = {low: True for low, _ in rows}
    # Where the order changes a row must begin, for each size is in one of them.
    begins = [2 * half + rest for rest in (0, 1) for half in class_begins(edges, rest)]
    return all([begin in lows for begin in begins])


def is_row_of_sizes(value):
    """Whether any value is a tuple (low, high) of a row of sizes."""
    if not (isinstance(value, tuple) and len(value) == 2):
        return False
    low, high = value
    if not is_int(low) or low < 1:
        return False
    return high is None or is_int(high) and high >= low and (high - low) % 2 == 0


def has_each_size(rows, rest):
    """Whether each size with a rest is in just one of some rows of sizes."""
    highs = {low: high for low, high in rows}
    wanted = 2 - rest
    for begin in sorted([int(low) for low, _ in rows if low % 2 == rest]):
        if begin != wanted:
            return False
        wanted = None if highs[begin] is None else highs[begin] + 2
    return wanted is None


def shows_verdict(program, claim, paper):
    """Whether a paper shows the verdict whether a claim holds for a program on all canvases."""
    return shows_yes((program, claim), holds_on(claim), paper) or shows_no((program, claim), holds_on(claim), paper)


def shows_alike(one, other, paper):
    """Whether a paper shows the verdict whether two programs are alike."""
    return shows_yes((one, other), are_equal_on, paper) or shows_no((one, other), are_equal_on, paper)


def shows_within(one, other, paper):
    """Whether a paper shows the verdict whether one program is within another one."""
    return shows_yes((one, other), is_within_on, paper) or shows_no((one, other), is_within_on, paper)


def holds_on(claim):
    """Tells of a chart of a program and a claim, and of a canvas, whether the claim holds there."""
    return lambda chart, width, height: claim.outcome(chart.board(width, height, 0), chart.behind)[0]


def are_equal_on(chart, width, height):
    """Whether the two programs of a chart paint the same on a canvas."""
    return parted_cells(chart.board(width, height, 0), chart.board(width, height, 1)) == 0


def is_within_on(chart, width, height):
    """Whether all colours of the first program of a chart are in the picture of the second one on a canvas."""
    return lost_cells(chart.board(width, height, 0), chart.board(width, height, 1)) == 0


def is_paper(value, word):
    """Whether any value is a tuple of three that begins with a word."""
    return isinstance(value, tuple) and len(value) == 3 and isinstance(value[0], str) and value[0] == word


def shows_yes(things, holds, paper):
    """Whether a paper shows yes: what is told by a function of a chart and a canvas holds on all least canvases."""
    if not (is_paper(paper, "yes") and isinstance(paper[1], tuple) and isinstance(paper[2], tuple)):
        return False
    if not are_covers(things, paper[1], paper[2]):
        return False
    return holds_ahead(things, holds, paper[1], paper[2], None)


def shows_no(things, holds, paper):
    """Whether a paper shows no: what is told by a function of a chart and a canvas fails on its canvas."""
    if not (is_paper(paper, "no") and is_side(paper[1], GREATEST) and is_side(paper[2], GREATEST)):
        return False
    width, height = paper[1], paper[2]
    chart = Chart(things, edge_parts("across", things), edge_parts("down", things))
    return not holds(chart, width, height)


def is_side(value, most):
    """Whether any value is the side of a canvas, up to the most."""
    return is_int_in(value, 1, most + 1)


def are_covers(things, widths, heights):
    """Whether two values are covers for the edges of programs and claims, and do not make too many pairs."""
    if not (covers(edge_parts("across", things), widths) and covers(edge_parts("down", things), heights)):
        return False
    return len(widths) * len(heights) <= MOST


def holds_ahead(things, holds, widths, heights, beyond):
    """Whether what a function tells holds on the canvas of each two lows; on those ahead of one, if there is one."""
    chart = Chart(things, edge_parts("across", things), edge_parts("down", things))
    survey = Survey(chart, lambda width, height: holds(chart, width, height))
    for wide, _ in widths:
        for high, _ in heights:
            if (beyond is None or is_ahead(wide, high, beyond)) and not survey.seen(wide, high):
                return False
    return True


def is_ahead(width, height, beyond):
    """Whether a canvas comes ahead of another one."""
    return (width + height, width) < (beyond[0] + beyond[1], beyond[0])


def shows_least(program, claim, paper, widths, heights):
    """Whether a paper shows no, with the least canvas on which the claim fails, as two covers of sizes show."""
    things, holds = (program, claim), holds_on(claim)
    if not (shows_no(things, holds, paper) and are_covers(things, widths, heights)):
        return False
    if paper[1] not in [low for low, _ in widths] or paper[2] not in [low for low, _ in heights]:
        return False
    return holds_ahead(things, holds, widths, heights, (paper[1], paper[2]))


def shows_leak(program, index, box, width, height, path):
    """Whether a path is a way by which a flood leaks out of a box on a canvas."""
    if not (is_side(width, Picture.MOST) and is_side(height, Picture.MOST) and is_path(path, width, height)):
        return False
    x0, x1, y0, y1 = box(width, height)
    inside = [x0 <= x < x1 and y0 <= y < y1 for x, y in path]
    if inside[-1] or not all(inside[:-1]) or path[0] != pixel_of(program, index, width, height):
        return False
    things = (program,)
    chart = Chart(things, edge_parts("across", things), edge_parts("down", things))
    cells = chart.cells_at(width, height, path)
    return any([not cells & ~region for region in chart.board(width, height, 0).found[index]])


def is_path(value, width, height):
    """Whether any value is a list or tuple of pixels of a canvas, each one a neighbour of the one ahead."""
    if not isinstance(value, (list, tuple)) or len(value) == 0:
        return False
    if not all([is_pixel_of(one, width, height) for one in value]):
        return False
    steps = [abs(x - to_x) + abs(y - to_y) for (x, y), (to_x, to_y) in zip(value, value[1:])]
    return all([step == 1 for step in steps])


def is_pixel_of(value, width, height):
    """Whether any value is the tuple of a pixel of a canvas."""
    if not (isinstance(value, tuple) and len(value) == 2):
        return False
    return is_int_in(value[0], 0, width) and is_int_in(value[1], 0, height)


def shows_fewest(program, indexes, claim, kept, reasons, paper):
    """Whether reasons and papers show which choice of some walls is the first one that is enough for a claim."""
    every = choices(indexes)
    numbers = [at for at, choice in enumerate(every) if is_choice(kept, choice)]
    if kept is not None and not numbers:
        return False
    ahead = every if kept is None else every[:numbers[0]]
    if not (isinstance(reasons, (list, tuple)) and len(reasons) == len(ahead)):
        return False
    holds = holds_on(claim)
    # In their order: behind the first reason that shows nothing no program is asked for, there may be too many edges.
    for reason, choice in zip(reasons, ahead):
        if not (isinstance(reason, tuple) and len(reason) == 2 and is_choice(reason[0], choice)):
            return False
        if not shows_no((left_of(program, indexes, choice), claim), holds, reason[1]):
            return False
    if kept is None:
        return paper is None
    return shows_yes((left_of(program, indexes, kept), claim), holds, paper)


def is_choice(value, choice):
    """Whether any value is the tuple of some walls."""
    return isinstance(value, tuple) and all([is_int(wall) for wall in value]) and value == choice
