"""Faults: the first pixels, by cells, at which a sheet is not as a claim says; None if it is."""

from heldfloods.grids import MARK


def pixel_at(sheet, i, j):
    """The first pixel of a cell."""
    return sheet.across.ends[i], sheet.down.ends[j]


def colour_fault(sheet, x, y, colour):
    """The pixel itself if it has another colour."""
    if not sheet.contains(x, y) or sheet.has(x, y, colour):
        return None
    return x, y


def left_fault(sheet, colour):
    """The first pixel with the colour."""
    for j, row in enumerate(sheet.grid):
        i = row.find(str(colour))
        if i >= 0:
            return pixel_at(sheet, i, j)
    return None


def cover_fault(sheet, box, colour):
    """The first pixel of a box, told by its four integers, with another colour."""
    left, right, top, foot = sheet.cells_of(box)
    for j in range(top, foot):
        bare = sheet.grid[j][left:right].lstrip(str(colour))
        if bare:
            return pixel_at(sheet, right - len(bare), j)
    return None


def mirror_fault(sheet, axis):
    """The first pixel whose colour is unlike that of its image."""
    return difference(sheet, sheet.grid, sheet.flipped(axis))


def held_fault(sheet, marks, box):
    """The first pixel outside of a box, told by its four integers, that is marked in one of several grids."""
    left, right, top, foot = sheet.cells_of(box)
    for j in range(len(sheet.grid)):
        if top <= j < foot:
            found = [row_fault(marked[j], left, right) for marked in marks]
        else:
            found = [marked[j].find(MARK) for marked in marks]
        first = min([int(i) for i in found if i >= 0], default=-1)
        if first >= 0:
            return pixel_at(sheet, first, j)
    return None


def row_fault(row, left, right):
    """The index of the first mark of a row that is not from left to right; -1 if there is none."""
    ahead = row.find(MARK, 0, left)
    return ahead if ahead >= 0 else row.find(MARK, right)


def difference(sheet, one, other):
    """The first pixel at which two grids of a sheet differ."""
    for j, row in enumerate(one):
        if row != other[j]:
            return pixel_at(sheet, [sign == beside for sign, beside in zip(row, other[j])].index(False), j)
    return None


def loss(sheet, one, other):
    """The first pixel that is not 0 in one grid of a sheet and has not this colour in the other one."""
    for j, row in enumerate(one):
        if row != other[j]:
            kept = [sign in ("0", beside) for sign, beside in zip(row, other[j])]
            if not all(kept):
                return pixel_at(sheet, kept.index(False), j)
    return None
