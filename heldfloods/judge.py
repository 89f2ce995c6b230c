"""Verdicts: whether a claim holds for a program on all canvases, and the least one on which it fails."""

from heldfloods.atlases import Atlas
from heldfloods.charts import Survey
from heldfloods.claims import Claim
from heldfloods.errors import BadClaim, Fails, Gap
from heldfloods.outcomes import check_floods
from heldfloods.programs import check_program


class Verdict:
    """The base of the two verdicts."""

    def __init__(self, paper):
        self._paper = paper

    def __bool__(self):
        return bool(self._paper[0] == "yes")

    @property
    def paper(self):
        """What the verdict tells, for others to check."""
        return self._paper

    def __eq__(self, other):
        return type(other) is Verdict and self.paper == other.paper


class Yes(Verdict):
    """A claim holds on all canvases: on the least canvases of all pairs of these classes."""

    def __init__(self, widths, heights):
        super().__init__(("yes", told(widths), told(heights)))
        self.widths = list(widths)
        self.heights = list(heights)

    def __bool__(self):
        return True

    @property
    def paper(self):
        """The classes of widths and of heights."""
        return self._paper

    def __eq__(self, other):
        return isinstance(other, Yes) and self.paper == other.paper


class No(Verdict):
    """A claim fails on a canvas, and on no lesser one."""

    def __init__(self, width, height, pixel):
        super().__init__(("no", width, height))
        self.width = width
        self.height = height
        self.pixel = pixel

    def __bool__(self):
        return False

    @property
    def paper(self):
        """The least canvas."""
        return self._paper

    def __eq__(self, other):
        return isinstance(other, No) and self.paper == other.paper


def told(sizes):
    """The tuple of the pairs (low, high) of some classes."""
    return tuple([(one.low, one.high) for one in sizes])


def judge(program, claim):
    """The verdict whether a claim holds for a program on all canvases."""
    atlas = claim_atlas(program, claim)
    survey = claim_survey(atlas.chart, claim)
    for wide, high in atlas.pages:
        held, wrong = survey.seen(wide.low, high.low)
        if not held:
            return No(wide.low, high.low, atlas.chart.first_pixel(wide.low, high.low, wrong))
    return Yes(atlas.widths, atlas.heights)


def failing(program, claim):
    """Yields the pairs on which a claim fails, in their order."""
    atlas = claim_atlas(program, claim)
    survey = claim_survey(atlas.chart, claim)
    for page in atlas.pages:
        if not survey.seen(page[0].low, page[1].low)[0]:
            yield page


def safe_from(program, claim):
    """The least n such that a claim holds on all canvases whose sides are n at least; None if there is none."""
    least = 1
    for wide, high in failing(program, claim):
        if wide.high is None and high.high is None:
            return None
        last = least_end(wide, high)
        if last >= least:
            least = last + 1
    return least


def least_end(wide, high):
    """The greatest n for which a pair has a canvas whose sides are n at least; one of its classes has an end."""
    if wide.high is None:
        return high.high
    if high.high is None or wide.high < high.high:
        return wide.high
    return high.high


def need(program, claim):
    """Raises Fails with the least canvas on which a claim fails, from Gap with its fault, if there are such."""
    verdict = judge(program, claim)
    if isinstance(verdict, No):
        if verdict.pixel is None:
            raise Fails(verdict.width, verdict.height)
        x, y = verdict.pixel
        raise Fails(verdict.width, verdict.height) from Gap(x, y)


def claim_atlas(program, claim):
    """The atlas of a program and a claim, behind all that is raised for them."""
    check_program(program, 0)
    if not isinstance(claim, Claim):
        raise BadClaim("claim")
    atlas = Atlas((program, claim))
    check_floods(claim, program)
    return atlas


def claim_survey(chart, claim):
    """Tells of the canvases of a chart of a program and a claim what the claim tells of their boards."""
    return Survey(chart, lambda width, height: claim.outcome(chart.board(width, height, 0), chart.behind))
