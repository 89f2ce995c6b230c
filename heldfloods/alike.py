"""Programs that are alike: they paint the same on all canvases."""

from heldfloods.atlases import Atlas
from heldfloods.faults import difference, loss
from heldfloods.judge import No, Yes
from heldfloods.programs import check_program


def alike(one, other):
    """The verdict whether two programs are alike."""
    check_two_programs(one, other)
    atlas = Atlas((one, other))
    for page in atlas.pages:
        pixel = parted_at(atlas, page, one, other)
        if pixel is not None:
            return No(page[0].low, page[1].low, pixel)
    return Yes(atlas.widths, atlas.heights)


def parting(one, other):
    """Yields the pairs on which the pictures of two programs differ, in their order."""
    check_two_programs(one, other)
    atlas = Atlas((one, other))
    for page in atlas.pages:
        if parted_at(atlas, page, one, other) is not None:
            yield page


def within(one, other):
    """The verdict whether each pixel of one program that is not 0 has the same colour in the other program."""
    check_two_programs(one, other)
    atlas = Atlas((one, other))
    for page in atlas.pages:
        first, second = atlas.painting(one, page).sheet, atlas.painting(other, page).sheet
        pixel = loss(first, first.grid, second.grid)
        if pixel is not None:
            return No(page[0].low, page[1].low, pixel)
    return Yes(atlas.widths, atlas.heights)


def needless(program):
    """The ascending tuple of the indexes of the deeds without which a program is alike."""
    check_program(program, 0)
    whole = Whole(program)
    return tuple([k for k in range(len(program)) if whole.is_needless(k)])


def trimmed(program):
    """What is left of a program if, as long as there is one, its last needless deed is left out."""
    check_program(program, 0)
    whole = Whole(program)
    k = len(program) - 1
    while k >= 0:
        if whole.is_needless(k):
            whole = Whole(whole.program.without(k))
            k = len(whole.program)
        k = k - 1
    return whole.program


class Whole:
    """A program with all of its deeds, and what it paints on the least canvases of its pairs."""

    def __init__(self, program):
        self.program = program
        self._atlas = Atlas((program,))
        self._sheets = {}

    def look(self, at):
        """What the program paints on the least canvas of the pair with an index; it is asked for again and again."""
        if at not in self._sheets:
            self._sheets[at] = self._atlas.painting(self.program, self._atlas.pages[at]).sheet
        return self._sheets[at]

    def is_needless(self, k):
        """Whether the program is alike without a deed.

        Without it there are no edges that there are not with it: each deed adds the more, the more there are.
        """
        shorter = self.program.without(k)
        # The greatest canvases come first: they have most to show, and it is not asked for the least one.
        for at in range(len(self._atlas.pages) - 1, -1, -1):
            page = self._atlas.pages[at]
            if self.look(at).grid != self._atlas.painting(shorter, page).sheet.grid:
                return False
        return True


def exchangeable(program, k):
    """The verdict whether a program is alike if the deeds k and k + 1 are exchanged."""
    check_program(program, 0)
    return alike(program, program.exchanged(k))


def commute(one, other):
    """The verdict whether two programs may be done in either order."""
    check_two_programs(one, other)
    return alike(one + other, other + one)


def settled(program):
    """The verdict whether a program may be done twice."""
    check_program(program, 0)
    return alike(program, program * 2)


def check_two_programs(one, other):
    """Raises BadProgram for the first of two values that is no program."""
    check_program(one, 0)
    check_program(other, 1)


def parted_at(atlas, page, one, other):
    """The first pixel with two colours on the least canvas of a pair; None if there is none."""
    first, second = atlas.painting(one, page).sheet, atlas.painting(other, page).sheet
    return difference(first, first.grid, second.grid)
