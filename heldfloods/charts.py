"""Charts: what some programs paint on canvases of some sizes."""

from heldfloods.boards import Board, lowest
from heldfloods.moves import Script, act_all
from heldfloods.programs import Program
from heldfloods.rulers import BITS, Ruler, cell_at, ends_at


class Chart:
    """Some programs, and some claims, on all canvases with some widths and some heights, by the edges of both axes.

    Two widths are of one kind if all that is needed of them is the same; so are two heights. On canvases of one kind
    all boards have the same cells and colours: only how wide and how high their cells are may be unlike.
    """

    def __init__(self, things, across, down, widths, heights):
        self._lines = []
        self.scripts = []
        for thing in things:
            if isinstance(thing, Program):
                self.scripts.append(Script(thing, self._lines))
        # Claims have numbers behind all moves, in their order.
        self.behind = len(self._lines)
        for thing in things:
            if not isinstance(thing, Program):
                self._lines.extend(list(thing.singles()))
        ends = {size: ends_at(across, size) for size in widths}
        # With a cell that is always 0 behind each row, nothing comes from one row into the next one.
        step = BITS * max([len(found) for found in ends.values()])
        self._across = {size: Ruler("across", size, ends[size], BITS) for size in widths}
        self._down = {size: Ruler("down", size, ends_at(down, size), step) for size in heights}
        self._wide = self.tracks(self._across)
        self._high = self.tracks(self._down)
        self._kinds = {}

    def tracks(self, rulers):
        """For each size what is needed of it, and the number of its kind."""
        found, numbers = {}, {}
        for size, ruler in rulers.items():
            track = tuple([line.marks(ruler) for line in self._lines])
            number = numbers.setdefault((len(ruler.ends), track), len(numbers))
            found[size] = track, number
        return found

    def kind(self, width, height):
        """A value that is the same for canvases of one kind."""
        return self._wide[width][1], self._high[height][1]

    def blank(self, width, height, which):
        """The board of a canvas ahead of the program with an index."""
        wide, high = self._wide[width][0], self._high[height][0]
        return Board(self._across[width], self._down[height], wide, high, self.scripts[which].counted)

    def board(self, width, height, which):
        """The board of a canvas that the program with an index has painted."""
        board = self.blank(width, height, which)
        act_all(self.scripts[which].moves, board)
        return board

    def first_pixel(self, width, height, cells):
        """The first pixel of a set of cells of a canvas; None if the set is empty."""
        if not cells:
            return None
        columns, rows = self.ends_on(width, height)
        y, ahead = divmod(lowest(cells), self._down[height].step)
        return columns[ahead // BITS], rows[y]

    def cells_at(self, width, height, pixels):
        """The set of the cells of some pixels of a canvas."""
        columns, rows = self.ends_on(width, height)
        step = self._down[height].step
        found = 0
        for x, y in pixels:
            found = found | 1 << cell_at(columns, x) * BITS + cell_at(rows, y) * step
        return found

    def ends_on(self, width, height):
        """The ends of the cells of a canvas: the ascending lists of those of its columns and of its rows."""
        return self._across[width].ends, self._down[height].ends


class Survey:
    """What a function of a width and a height tells of the canvases of a chart, asked once for each kind of them."""

    def __init__(self, chart, look):
        self._chart = chart
        self._look = look
        self._found = {}

    def seen(self, width, height):
        """What the function tells of a canvas."""
        kind = self._chart.kind(width, height)
        if kind not in self._found:
            self._found[kind] = self._look(width, height)
        return self._found[kind]
