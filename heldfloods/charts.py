"""Charts: what some programs paint on canvases of some sizes."""

from heldfloods.boards import Board, lowest
from heldfloods.moves import Script, act_all
from heldfloods.programs import Program
from heldfloods.rulers import BITS, Ruler, cell_at, ends_at


class Lane:
    """One axis of a chart, by its edges: what is known of each size that was asked for."""

    def __init__(self, axis, edges, step, lines):
        self._axis = axis
        self._edges = edges
        self._step = step
        self._lines = lines
        self._known = {}
        self._kinds = {}

    def known(self, size):
        """The ruler of a size, its track, and the number of its kind."""
        if size not in self._known:
            ruler = Ruler(self._axis, size, ends_at(self._edges, size), self._step)
            track = tuple([line.marks(ruler) for line in self._lines])
            kind = self._kinds.setdefault((len(ruler.ends), track), len(self._kinds))
            self._known[size] = ruler, track, kind
        return self._known[size]


class Chart:
    """Some programs, and some claims, on canvases of any sizes, by the edges of both axes.

    Two widths are of one kind if all that is needed of them is the same; so are two heights. On canvases of one kind
    all boards have the same cells and colours: only how wide and how high their cells are may be unlike.
    """

    def __init__(self, things, across, down):
        lines = []
        self.scripts = []
        for thing in things:
            if isinstance(thing, Program):
                self.scripts.append(Script(thing, lines))
        # Claims have numbers behind all moves, in their order.
        self.behind = len(lines)
        for thing in things:
            if not isinstance(thing, Program):
                lines.extend(list(thing.singles()))
        self._across = Lane("across", across, BITS, lines)
        # With a cell that is always 0 behind each row, nothing comes from one row into the next one.
        self._down = Lane("down", down, BITS * len(across), lines)

    def kind(self, width, height):
        """A value that is the same for canvases of one kind."""
        return self._across.known(width)[2], self._down.known(height)[2]

    def blank(self, width, height, which):
        """The board of a canvas ahead of the program with an index."""
        across, wide, _ = self._across.known(width)
        down, high, _ = self._down.known(height)
        return Board(across, down, wide, high, self.scripts[which].counted)

    def board(self, width, height, which):
        """The board of a canvas that the program with an index has painted."""
        board = self.blank(width, height, which)
        act_all(self.scripts[which].moves, board)
        return board

    def first_pixel(self, width, height, cells):
        """The first pixel of a set of cells of a canvas; None if the set is empty."""
        if not cells:
            return None
        columns, rows = self.ends_on(width, height)
        y, ahead = divmod(lowest(cells), self._down.known(height)[0].step)
        return columns[ahead // BITS], rows[y]

    def cells_at(self, width, height, pixels):
        """The set of the cells of some pixels of a canvas."""
        columns, rows = self.ends_on(width, height)
        step = self._down.known(height)[0].step
        # A way may have far more pixels than the canvas has columns and rows.
        known_x, known_y = {x: True for x, _ in pixels}, {y: True for _, y in pixels}
        across = {at: cell_at(columns, at) * BITS for at in known_x}
        down = {at: cell_at(rows, at) * step for at in known_y}
        found = 0
        for x, y in pixels:
            found = found | 1 << across[x] + down[y]
        return found

    def ends_on(self, width, height):
        """The ends of the cells of a canvas: the ascending lists of those of its columns and of its rows."""
        return self._across.known(width)[0].ends, self._down.known(height)[0].ends


class Survey:
    """What a function of a width and a height tells of the canvases of a chart, asked once for each kind of them."""

    def __init__(self, chart, look):
        self._chart = chart
        self._look = look
        self._found = {}

    def seen(self, width, height):
        """What the function tells of a canvas."""
        kind = self._chart.kind(width, height)
        if kind not in self._found:
            self._found[kind] = self._look(width, height)
        return self._found[kind]
