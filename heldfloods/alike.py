"""Programs that are alike: they paint the same on all canvases."""

from heldfloods.atlases import Atlas
from heldfloods.charts import Survey
from heldfloods.judge import No, Yes
from heldfloods.programs import check_program


def alike(one, other):
    """The verdict whether two programs are alike."""
    check_two_programs(one, other)
    return verdict_of(Atlas((one, other)), parted_cells)


def parting(one, other):
    """Yields the pairs on which the pictures of two programs differ, in their order."""
    check_two_programs(one, other)
    atlas = Atlas((one, other))
    survey = survey_of(atlas.chart, parted_cells)
    for page in atlas.pages:
        if survey.seen(page[0].low, page[1].low):
            yield page


def within(one, other):
    """The verdict whether each pixel of one program that is not 0 has the same colour in the other program."""
    check_two_programs(one, other)
    return verdict_of(Atlas((one, other)), lost_cells)


def verdict_of(atlas, look):
    """The verdict whether a function of the two boards of a canvas tells no cells on any canvas."""
    survey = survey_of(atlas.chart, look)
    for wide, high in atlas.pages:
        wrong = survey.seen(wide.low, high.low)
        if wrong:
            return No(wide.low, high.low, atlas.chart.first_pixel(wide.low, high.low, wrong))
    return Yes(atlas.widths, atlas.heights)


def survey_of(chart, look):
    """Tells of the canvases of a chart of two programs what a function tells of their two boards."""
    return Survey(chart, lambda width, height: look(chart.board(width, height, 0), chart.board(width, height, 1)))


def parted_cells(one, other):
    """The set of the cells at which two boards differ."""
    return one.marked(one.colours ^ other.colours)


def lost_cells(one, other):
    """The set of the cells that are not 0 in one board and have not this colour in the other one."""
    return one.marked(one.colours) & parted_cells(one, other)


def needless(program):
    """The ascending tuple of the indexes of the deeds without which a program is alike."""
    check_program(program, 0)
    whole = Whole(program)
    return tuple([k for k in range(len(program)) if whole.is_needless(k)])


def trimmed(program):
    """What is left of a program if, as long as there is one, its last needless deed is left out."""
    check_program(program, 0)
    whole = Whole(program)
    k = len(program) - 1
    while k >= 0:
        if whole.is_needless(k):
            whole = Whole(whole.program.without(k))
            k = len(whole.program)
        k = k - 1
    return whole.program


class Whole:
    """A program with all of its deeds, and what it paints on one canvas of each kind."""

    def __init__(self, program):
        self.program = program
        atlas = Atlas((program,))
        self._chart = atlas.chart
        self._moves = atlas.chart.scripts[0].moves
        kinds = {self._chart.kind(wide.low, high.low): (wide.low, high.low) for wide, high in atlas.pages}
        # The greatest canvases come first: they have most to show, and it is not asked for the least one.
        self._sizes = list(kinds.values())[::-1]
        self._colours = {}

    def colours_on(self, size):
        """The colours ahead of each deed, and behind the last one, on a canvas; they are asked for again and again."""
        if size not in self._colours:
            board = self._chart.blank(*size, 0)
            found = [board.colours]
            for move in self._moves:
                move.act(board)
                found.append(board.colours)
            self._colours[size] = found
        return self._colours[size]

    def is_needless(self, k):
        """Whether the program is alike without a deed.

        Without it there are no edges that there are not with it: each deed adds the more, the more there are.
        """
        for size in self._sizes:
            if not self.is_needless_on(k, size):
                return False
        return True

    def is_needless_on(self, k, size):
        """Whether a canvas has the same colours without a deed."""
        wanted = self.colours_on(size)
        board = self._chart.blank(*size, 0)
        board.colours = wanted[k]
        for at in range(k + 1, len(self._moves)):
            # Canvases that are equal at one time stay so.
            if board.colours == wanted[at]:
                return True
            self._moves[at].act(board)
        return board.colours == wanted[-1]


def exchangeable(program, k):
    """The verdict whether a program is alike if the deeds k and k + 1 are exchanged."""
    check_program(program, 0)
    return alike(program, program.exchanged(k))


def commute(one, other):
    """The verdict whether two programs may be done in either order."""
    check_two_programs(one, other)
    return alike(one + other, other + one)


def settled(program):
    """The verdict whether a program may be done twice."""
    check_program(program, 0)
    return alike(program, program * 2)


def check_two_programs(one, other):
    """Raises BadProgram for the first of two values that is no program."""
    check_program(one, 0)
    check_program(other, 1)
