"""Outcomes: whether a claim holds for a program on one canvas, of any size."""

from heldfloods.charts import Chart
from heldfloods.checks import check_canvas
from heldfloods.edges import loose_parts
from heldfloods.errors import NoFlood


def check_floods(claim, program):
    """Raises NoFlood for the first Held in a claim whose number is that of no flood of the program."""
    for single in claim.singles():
        if single.least_floods() > program.floods:
            raise NoFlood(single.index)


def outcome_on(claim, program, width, height):
    """Whether a claim holds for a program on a canvas, and its fault if it fails."""
    check_canvas(width, height)
    check_floods(claim, program)
    things = program, claim
    across, down = loose_parts("across", things), loose_parts("down", things)
    chart = Chart(things, across, down)
    held, wrong = claim.outcome(chart.board(width, height, 0), chart.behind)
    return held, chart.first_pixel(width, height, wrong)
