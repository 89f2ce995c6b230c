"""Boards: canvases of any size, painted by cells, between edges within which all pixels have one colour.

The edges are those of all that is done to a board (and perhaps more), so that ahead of each deed, and behind it, all
pixels of a cell have one colour. The colours of all cells are one integer, with four bits for each cell: so a deed is
done to all cells at once. The cells of a row stand one behind another, with one that is always 0 behind them.
"""

from heldfloods.rulers import BITS, FULL


class Board:
    """A canvas of any size, all of the colour 0 at first.

    What a deed or a claim with a number needs of an axis stands in the tracks, at this number.
    """

    def __init__(self, across, down, wide_track, high_track, floods):
        self.across = across
        self.down = down
        self.wide_track = wide_track
        self.high_track = high_track
        self.every = across.every * down.every
        self.colours = 0
        # For each flood the sets of the cells of its regions, in the order of time.
        self.found = [[] for _ in range(floods)]

    def patch(self, at):
        """The set of the cells of the box of a deed or a claim."""
        return self.wide_track[at] * self.high_track[at]

    def shift(self, at):
        """How many bits are ahead of the cell at the place of a deed; -1 if no pixel is there."""
        x, y = self.wide_track[at], self.high_track[at]
        return -1 if x < 0 or y < 0 else x + y

    def shows(self, at, colour):
        """Whether the cell at the place of a deed has a colour."""
        shift = self.shift(at)
        return shift >= 0 and self.colours >> shift & FULL == colour

    def paint(self, cells, colour):
        """Gives a set of cells a colour."""
        self.colours = self.colours & ~(FULL * cells) | colour * cells

    def having(self, colour):
        """The set of the cells that have a colour."""
        return self.every ^ self.marked(self.colours ^ colour * self.every)

    def marked(self, signs):
        """The set of the cells that do not have 0 in an integer like that of the colours."""
        signs = signs | signs >> 2
        return (signs | signs >> 1) & self.every

    def beside(self, cells):
        """The set of the neighbours of a set of cells."""
        step = self.down.step
        return (cells << BITS | cells >> BITS | cells << step | cells >> step) & self.every

    def flood(self, shift, colour, number):
        """Floods from the cell with so many bits ahead of it, and keeps the region for the flood with this number."""
        same = self.having(self.colours >> shift & FULL)
        front = 1 << shift
        rest, step = same ^ front, self.down.step
        while front:
            front = (front << BITS | front >> BITS | front << step | front >> step) & rest
            rest = rest ^ front
        self.found[number].append(same ^ rest)
        self.paint(same ^ rest, colour)

    def escaped(self, number, at):
        """The set of the cells of the regions of a flood that are not in the box of a claim."""
        found = 0
        for region in self.found[number]:
            found = found | region
        return found & ~self.patch(at)

    def turned_colours(self, axis, at):
        """The colours of the board flipped along an axis, by the shifts that stand at a number in the track."""
        if axis == "across":
            return gathered(self.colours, self.wide_track[at], self.down.every)
        return gathered(self.colours, self.high_track[at], self.across.every)

    def bring_box(self, at):
        """Copies the box of a deed."""
        columns, across = self.wide_track[at]
        rows, down = self.high_track[at]
        brought = gathered(gathered(self.colours, across, self.down.every), down, columns)
        self.colours = self.colours & ~(FULL * columns * rows) | brought

    def bounds(self, cells):
        """The numbers of the first column of a set of cells, of the one behind it, and likewise of its rows."""
        step = self.down.step
        top, foot = lowest(cells) // step, (cells.bit_length() - 1) // step
        columns = 0
        for y in range(top, foot + 1):
            columns = columns | cells >> y * step & self.across.every
        return lowest(columns) // BITS, (columns.bit_length() - 1) // BITS + 1, top, foot + 1

    def lines(self, signs):
        """The list of the rows of an integer like that of the colours: strings with one figure for each cell."""
        wide, high = len(self.across.ends) - 1, len(self.down.ends) - 1
        stride = self.down.step // BITS
        figures = f"{signs:x}"
        figures = figures[::-1].ljust(high * stride, "0")
        return [figures[y * stride:y * stride + wide] for y in range(high)]


def gathered(signs, shifts, beside):
    """What some shifts on an axis bring to their targets, in the rows, or columns, that are set on the other axis."""
    found = 0
    for back, bits in shifts:
        brought = signs >> back if back >= 0 else signs << -back
        found = found | brought & bits * beside
    return found


def lowest(cells):
    """How many bits are ahead of the first cell of a set that is not empty."""
    return (cells & -cells).bit_length() - 1
