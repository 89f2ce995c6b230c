"""Atlases: the canvases that stand for those of all sizes."""

from heldfloods.charts import Chart
from heldfloods.classes import class_lists, ordered_pairs
from heldfloods.edges import edge_parts


class Atlas:
    """The pairs of the edges of some programs and claims, in their order, and the chart of their least canvases."""

    def __init__(self, things):
        self.across, self.down = edge_parts("across", things), edge_parts("down", things)
        self.widths, self.heights = class_lists(self.across, self.down)
        self.pages = ordered_pairs(self.widths, self.heights)
        self.chart = Chart(things, self.across, self.down)
