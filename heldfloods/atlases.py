"""Atlases: the canvases that stand for those of all sizes."""

from heldfloods.classes import class_lists, ordered_pairs
from heldfloods.edges import edge_parts, values_at
from heldfloods.paintings import Painting
from heldfloods.sheets import Ruler


class Atlas:
    """The pairs of the edges of some programs and claims, in their order, and the rulers of their least canvases."""

    def __init__(self, things):
        across, down = edge_parts("across", things), edge_parts("down", things)
        self.widths, self.heights = class_lists(across, down)
        self.pages = ordered_pairs(self.widths, self.heights)
        self._across = {sizes.low: Ruler(sizes.low, values_at(across, sizes.low)) for sizes in self.widths}
        self._down = {sizes.low: Ruler(sizes.low, values_at(down, sizes.low)) for sizes in self.heights}

    def painting(self, program, page):
        """What a program paints on the least canvas of a pair."""
        wide, high = page
        return Painting(program, self._across[wide.low], self._down[high.low])
