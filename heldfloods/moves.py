"""Moves: the deeds of programs, as they are done to boards.

Each move has a number, at. Its marks tell what it needs of an axis at a size; they stand at its number in the tracks
of a board when it acts.
"""

from heldfloods.boxes import box_ends
from heldfloods.deeds import Again, Boxed, Copy, Fill, Flip, Frame, Grow, Pointed, Swap, When
from heldfloods.programs import floods_said


class BoxMove:
    """A Fill."""

    def __init__(self, at, deed):
        self.at = at
        self.deed = deed

    def marks(self, ruler):
        """What the move needs of an axis."""
        begin, end = box_ends(self.deed.box, ruler.axis)
        return ruler.span(begin, end)

    def act(self, board):
        """Does the deed to a board."""
        board.paint(board.patch(self.at), self.deed.colour)


class FrameMove:
    """A Frame."""

    def __init__(self, at, deed):
        self.at = at
        self.deed = deed

    def marks(self, ruler):
        """The cells of the box, and those that are not painted."""
        begin, end = box_ends(self.deed.box, ruler.axis)
        thick = self.deed.thick
        return ruler.span(begin, end), ruler.span(begin + thick, end - thick)

    def act(self, board):
        """Does the deed to a board."""
        columns, free_columns = board.wide_track[self.at]
        rows, free_rows = board.high_track[self.at]
        board.paint(columns * rows ^ free_columns * free_rows, self.deed.colour)


class PointMove:
    """A Flood, with the number that it has among the floods."""

    def __init__(self, at, deed, number):
        self.at = at
        self.deed = deed
        self.number = number

    def marks(self, ruler):
        """Where the pixel is."""
        return point_shift(self.deed, ruler)

    def act(self, board):
        """Does the deed to a board."""
        shift = board.shift(self.at)
        if shift >= 0:
            board.flood(shift, self.deed.colour, self.number)


class CopyMove:
    """A Copy."""

    def __init__(self, at, deed):
        self.at = at
        self.deed = deed

    def marks(self, ruler):
        """The cells to which something comes, and from where."""
        begin, end = box_ends(self.deed.box, ruler.axis)
        return ruler.copied(begin, end, self.deed.x if ruler.axis == "across" else self.deed.y)

    def act(self, board):
        """Does the deed to a board."""
        board.bring_box(self.at)


class FlipMove:
    """A Flip."""

    def __init__(self, at, deed):
        self.at = at
        self.deed = deed

    def marks(self, ruler):
        """From where something comes to each cell."""
        return ruler.turned() if ruler.axis == self.deed.axis else ()

    def act(self, board):
        """Does the deed to a board."""
        board.colours = board.turned_colours(self.deed.axis, self.at)


class SwapMove:
    """A Swap, which needs nothing of any axis."""

    def __init__(self, deed):
        self.deed = deed

    def act(self, board):
        """Does the deed to a board."""
        one, other = self.deed.one, self.deed.other
        board.colours = board.colours ^ (one ^ other) * (board.having(one) | board.having(other))


class GrowMove:
    """A Grow, which needs nothing of any axis."""

    def __init__(self, deed):
        self.deed = deed

    def act(self, board):
        """Does the deed to a board."""
        # A cell beside one of another colour is one pixel wide here, since Grow adds edges next to each edge.
        board.paint(board.beside(board.having(self.deed.colour)), self.deed.colour)


class AgainMove:
    """An Again, with the list of the moves of its deeds."""

    def __init__(self, times, moves):
        self.moves = moves * times

    def act(self, board):
        """Does the deed to a board."""
        act_all(self.moves, board)


class WhenMove:
    """A When, with the lists of the moves of its deeds and of its others."""

    def __init__(self, at, deed):
        self.at = at
        self.deed = deed
        self.moves = []
        self.others = []

    def marks(self, ruler):
        """Where the pixel is."""
        return point_shift(self.deed, ruler)

    def act(self, board):
        """Does the deed to a board."""
        act_all(self.moves if board.shows(self.at, self.deed.colour) else self.others, board)


class Script:
    """The moves of a program; those that need something of the axes are put behind some lines, and counted so."""

    def __init__(self, program, lines):
        # How many floods have a number.
        self.counted = 0
        self._lines = lines
        self.moves = self.block(program.deeds)

    def block(self, deeds):
        """The list of the moves of some deeds."""
        return [self.move_of(deed) for deed in deeds]

    def move_of(self, deed):
        """The move of a deed."""
        if isinstance(deed, Again) and deed.times > 0:
            return AgainMove(deed.times, self.block(deed.deeds))
        if isinstance(deed, Swap):
            return SwapMove(deed)
        if isinstance(deed, Grow):
            return GrowMove(deed)
        if isinstance(deed, Again):
            # What is never done adds no edges, so nothing can be told of it on any axis. Its floods are said.
            self.counted = self.counted + floods_said(deed.deeds)
        if not isinstance(deed, (Boxed, Pointed, Flip)):
            return AgainMove(0, [])
        move = self.placed_move(deed, len(self._lines))
        self._lines.append(move)
        if isinstance(deed, When):
            move.moves.extend(self.block(deed.deeds))
            move.others.extend(self.block(deed.others))
        return move

    def placed_move(self, deed, at):
        """The move of a deed that needs something of the axes."""
        if isinstance(deed, Fill):
            return BoxMove(at, deed)
        if isinstance(deed, Frame):
            return FrameMove(at, deed)
        if isinstance(deed, Copy):
            return CopyMove(at, deed)
        if isinstance(deed, Flip):
            return FlipMove(at, deed)
        if isinstance(deed, When):
            return WhenMove(at, deed)
        self.counted = self.counted + 1
        return PointMove(at, deed, self.counted - 1)


def act_all(moves, board):
    """Does some moves to a board, one after another."""
    for move in moves:
        move.act(board)


def point_shift(deed, ruler):
    """How many bits are ahead of the cell at the place of a deed, on one axis."""
    return ruler.point(deed.x if ruler.axis == "across" else deed.y)
