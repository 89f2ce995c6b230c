"""What a program paints on a canvas of any size."""

from heldfloods.deeds import Flood
from heldfloods.edges import loose_parts, values_at
from heldfloods.sheets import Ruler, Sheet
from heldfloods.steps import Steps


class Painting:
    """The sheet that a program has painted, and for each of its floods the list of the regions, as marked grids."""

    def __init__(self, program, across, down):
        self.sheet = Sheet(across, down)
        self.marks = [[] for _ in range(program.floods)]
        steps = Steps(program, self.sheet)
        step = steps.coming()
        while step is not None:
            deed, number = step
            if isinstance(deed, Flood):
                self.keep_flood(deed, number)
            else:
                deed.on(self.sheet)
            step = steps.coming()

    def keep_flood(self, deed, number):
        """Does a Flood, and keeps its region."""
        marked = self.sheet.flood(deed.x(self.sheet.width), deed.y(self.sheet.height), deed.colour)
        if marked is not None:
            self.marks[number].append(marked)


def ruler(axis, size, things):
    """The ruler of the edges of programs and claims at a size."""
    return Ruler(size, values_at(loose_parts(axis, things), size))
