"""Grids: lists or tuples of rows of one length, each a string with one digit for each pixel.

The functions change no grid; those that paint return the rows of a new one.
"""

from heldfloods.checks import is_int_in
from heldfloods.errors import BadPixel

# A sign that is no colour.
MARK = "x"


def wrong_row(rows, most):
    """The index of the first of some values that is no row up to the most, or not as long as the first; or None."""
    for at, row in enumerate(rows):
        if not is_row(row, most) or len(row) != len(rows[0]):
            return at
    return None


def is_row(value, most):
    """Whether any value is a string of digits, from one to the most."""
    return isinstance(value, str) and value.isascii() and value.isdigit() and len(value) <= most


def is_pixel(rows, x, y):
    """Whether any two values are a pixel."""
    return is_int_in(x, 0, len(rows[0])) and is_int_in(y, 0, len(rows))


def check_pixel(rows, x, y):
    """Raises BadPixel for any two values that are no pixel."""
    if not is_pixel(rows, x, y):
        raise BadPixel(x, y)


def clipped(begin, end, size):
    """What of the indexes from begin to end is left from 0 to the size."""
    return (begin if begin > 0 else 0), (end if end < size else size)


def painted(row, begin, end, sign):
    """A row with one sign from begin to end."""
    return row[:begin] + sign * (end - begin) + row[end:]


def filled_rows(rows, x0, x1, y0, y1, colour):
    """The grid with a box filled."""
    left, right = clipped(x0, x1, len(rows[0]))
    top, foot = clipped(y0, y1, len(rows))
    new = list(rows)
    if left < right:
        for y in range(top, foot):
            new[y] = painted(rows[y], left, right, str(colour))
    return new


def copied_rows(rows, box, right, down):
    """The grid with a box copied so far to the right and so far down; box has its four integers."""
    x0, x1, y0, y1 = box
    width, height = len(rows[0]), len(rows)
    x0, x1 = clipped(x0, x1, width)
    y0, y1 = clipped(y0, y1, height)
    # From here on the ends are those of the target.
    x0, x1 = clipped(x0 + right, x1 + right, width)
    y0, y1 = clipped(y0 + down, y1 + down, height)
    new = list(rows)
    if x0 < x1:
        for y in range(y0, y1):
            new[y] = rows[y][:x0] + rows[y - down][x0 - right:x1 - right] + rows[y][x1:]
    return new


def flipped_rows(rows, axis):
    """The grid flipped along an axis."""
    if axis == "across":
        return [row[::-1] for row in rows]
    return list(rows[::-1])


def swapped_rows(rows, one, other):
    """The grid with two colours in the place of each other."""
    first, second = str(one), str(other)
    return [row.replace(first, MARK).replace(second, first).replace(MARK, second) for row in rows]


def grown_rows(rows, colour):
    """The grid with a colour also at all neighbours of its pixels."""
    sign, outside = str(colour), MARK * len(rows[0])
    threes = list(zip(rows, [outside, *rows[:-1]], [*rows[1:], outside]))
    # Most pictures have few rows that differ, and each pixel of a row is looked at.
    grown = {}
    for three in threes:
        if three not in grown:
            grown[three] = grown_row(*three, sign)
    return [grown[three] for three in threes]


def grown_row(row, up, down, sign):
    """A row, between the rows above and below it, with a sign also at all neighbours of this sign."""
    left, right = MARK + row[:-1], row[1:] + MARK
    return "".join([
        sign if sign in (west, east, north, south) else old
        for old, west, east, north, south in zip(row, left, right, up, down)
    ])


def marked_region(rows, x, y):
    """The grid with MARK at all pixels of the region of a pixel."""
    sign = rows[y][x]
    new = list(rows)
    seeds = [(x, y)]
    while seeds:
        x, y = seeds.pop()
        row = new[y]
        if row[x] == sign:
            begin = len(row[:x].rstrip(sign))
            behind = row[x:].lstrip(sign)
            end = len(row) - len(behind)
            new[y] = row[:begin] + MARK * (end - begin) + behind
            if y > 0:
                add_seeds(seeds, new[y - 1], y - 1, begin, end, sign)
            if y + 1 < len(new):
                add_seeds(seeds, new[y + 1], y + 1, begin, end, sign)
    return new


def add_seeds(seeds, row, y, begin, end, sign):
    """Adds one pixel between begin and end for each run of a sign in a row that has one there."""
    at = row.find(sign, begin, end)
    while at >= 0:
        seeds.append((at, y))
        behind = row[at:end].lstrip(sign)
        at = row.find(sign, end - len(behind), end)


def run_end(row, x):
    """The index behind the signs of a row that are equal, without a gap, to that at an index."""
    return len(row) - len(row[x:].lstrip(row[x]))


def runs(rows, sign):
    """The list of (y, begin, end) for all runs of a sign in a grid, in order."""
    found = []
    for y, row in enumerate(rows):
        begin = row.find(sign)
        while begin >= 0:
            end = run_end(row, begin)
            found.append((y, begin, end))
            begin = row.find(sign, end)
    return found


def region_pixels(rows, x, y):
    """The tuple of the pixels of the region of a pixel, in order."""
    marked = marked_region(rows, x, y)
    return tuple([(at, line) for line, begin, end in runs(marked, MARK) for at in range(begin, end)])


def shortest_way(rows, start, goal):
    """A tuple of pixels of one region from the pixel start to goal, as few as any; None if there is none."""
    if marked_region(rows, start[0], start[1])[goal[1]][goal[0]] != MARK:
        return None
    wide = len(rows[0]) + 1
    board = board_of(rows)
    first, last = (start[1] + 1) * wide + start[0], (goal[1] + 1) * wide + goal[0]
    search(board, wide, first, last)
    return traced(board, wide, first, last)


def way_out(rows, start, sign):
    """A tuple of pixels from the pixel start to one with a sign, as few as any; those ahead are like the first one.

    There is such a way.
    """
    wide = len(rows[0]) + 1
    board = board_of(rows)
    first = (start[1] + 1) * wide + start[0]
    last, old = None, board[first]
    if old == sign:
        return (start,)
    board[first] = first
    front = [first]
    while last is None:
        front, last = step_out(board, wide, front, old, sign)
    return traced(board, wide, first, last)


def step_out(board, wide, front, old, sign):
    """The list of the board beside a front that has an old sign, and the first cell met there with another sign."""
    reached = []
    for at in front:
        for beside in (at - 1, at + 1, at - wide, at + wide):
            if board[beside] == old:
                board[beside] = at
                reached.append(beside)
            elif board[beside] == sign:
                board[beside] = at
                return reached, beside
    return reached, None


def board_of(rows):
    """The list of all signs of a grid; no step from one of them leaves it.

    For there is MARK behind each row, and a row of MARK at both ends.
    """
    outside = MARK * (len(rows[0]) + 1)
    return list(outside + "".join([row + MARK for row in rows]) + outside)


def traced(board, wide, first, last):
    """The tuple of the pixels from the first one to the last one, each of which has the index of the one ahead."""
    way = [last]
    while way[-1] != first:
        way.append(board[way[-1]])
    return tuple([(at % wide, at // wide - 1) for at in way[::-1]])


def search(board, wide, first, last):
    """Puts into each cell that it reaches the index of the cell ahead of it on a shortest way from the first one.

    The last cell can be reached. A step towards it leaves the least length of a way through a cell as it is, any
    other step adds 2 to it; so all ways with the least length so far are followed ahead of those with 2 more.
    """
    sign = board[first]
    goal_x, goal_y = last % wide, last // wide
    board[first] = first
    front, passed = [first], []
    while board[last] == sign:
        if not front:
            front = spread(board, wide, passed, sign)
            passed = []
        at = front.pop()
        passed.append(at)
        x, y = at % wide, at // wide
        beside = at + 1 if x < goal_x else at - 1
        if x != goal_x and board[beside] == sign:
            board[beside] = at
            front.append(beside)
        beside = at + wide if y < goal_y else at - wide
        if y != goal_y and board[beside] == sign:
            board[beside] = at
            front.append(beside)


def spread(board, wide, passed, sign):
    """The list of the board beside those passed that were not reached; now each has the index of the one ahead."""
    reached = []
    for at in passed:
        for beside in (at - 1, at + 1, at - wide, at + wide):
            if board[beside] == sign:
                board[beside] = at
                reached.append(beside)
    return reached
