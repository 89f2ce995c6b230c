"""Claims: what may hold or fail for a program on a canvas."""

from heldfloods.boxes import box_ends
from heldfloods.checks import check_canvas
from heldfloods.claimparts import check_part, claim_axis, claim_box, claim_colour, claim_index, claim_place
from heldfloods.errors import NoFlood, TooMany
from heldfloods.faults import colour_fault, cover_fault, held_fault, left_fault, mirror_fault
from heldfloods.paintings import Painting, ruler


class Claim:
    """The base of all claims."""

    MOST = 8

    def first_fault(self, painting):
        """The fault of a claim that has one if it fails; None if it holds."""

    def outcome(self, painting):
        """Whether the claim holds for a painting, and its fault if it fails."""
        fault = self.first_fault(painting)
        return fault is None, fault

    def places_on(self, axis):
        """The list of the places that the claim adds to the edges of an axis."""
        return []

    def mirrors(self, axis):
        """Whether the claim adds the mirrors of all edges of an axis."""
        return False

    def holds(self, program, width, height):
        """Whether the claim holds for a program on a canvas."""
        return outcome_on(self, program, width, height)[0]

    def fault(self, program, width, height):
        """The fault of the claim for a program on a canvas, None if it holds or has none."""
        return outcome_on(self, program, width, height)[1]

    def singles(self):
        """Yields the claims in it that are not joined of others, from the left."""
        yield from single_claims(self)

    def __and__(self, other):
        return Both(self, other)

    def __or__(self, other):
        return Either(self, other)

    def __invert__(self):
        return Not(self)

    def __eq__(self, other):
        return type(other) is Claim

    def __str__(self):
        return "claim"


class ColourAt(Claim):
    """A pixel, if there is one at a place, has a colour."""

    def __init__(self, x, y, colour):
        self.x = claim_place(x, "x")
        self.y = claim_place(y, "y")
        self.colour = claim_colour(colour)

    def first_fault(self, painting):
        sheet = painting.sheet
        return colour_fault(sheet, self.x(sheet.width), self.y(sheet.height), self.colour)

    def places_on(self, axis):
        place = self.x if axis == "across" else self.y
        return [place, place + 1]

    def holds(self, program, width, height):
        return outcome_on(self, program, width, height)[0]

    def fault(self, program, width, height):
        return outcome_on(self, program, width, height)[1]

    def singles(self):
        yield from single_claims(self)

    def __and__(self, other):
        return Both(self, other)

    def __or__(self, other):
        return Either(self, other)

    def __invert__(self):
        return Not(self)

    def __eq__(self, other):
        return (isinstance(other, ColourAt) and self.x == other.x and self.y == other.y
                and self.colour == other.colour)

    def __str__(self):
        return f"colour {self.x} {self.y} {self.colour}"


class NoneLeft(Claim):
    """No pixel has a colour."""

    def __init__(self, colour):
        self.colour = claim_colour(colour)

    def first_fault(self, painting):
        return left_fault(painting.sheet, self.colour)

    def holds(self, program, width, height):
        return outcome_on(self, program, width, height)[0]

    def fault(self, program, width, height):
        return outcome_on(self, program, width, height)[1]

    def singles(self):
        yield from single_claims(self)

    def __and__(self, other):
        return Both(self, other)

    def __or__(self, other):
        return Either(self, other)

    def __invert__(self):
        return Not(self)

    def __eq__(self, other):
        return isinstance(other, NoneLeft) and self.colour == other.colour

    def __str__(self):
        return f"none {self.colour}"


class Covered(Claim):
    """All pixels of a box have a colour."""

    def __init__(self, box, colour):
        self.box = claim_box(box)
        self.colour = claim_colour(colour)

    def first_fault(self, painting):
        sheet = painting.sheet
        return cover_fault(sheet, self.box(sheet.width, sheet.height), self.colour)

    def places_on(self, axis):
        return list(box_ends(self.box, axis))

    def holds(self, program, width, height):
        return outcome_on(self, program, width, height)[0]

    def fault(self, program, width, height):
        return outcome_on(self, program, width, height)[1]

    def singles(self):
        yield from single_claims(self)

    def __and__(self, other):
        return Both(self, other)

    def __or__(self, other):
        return Either(self, other)

    def __invert__(self):
        return Not(self)

    def __eq__(self, other):
        return isinstance(other, Covered) and self.box == other.box and self.colour == other.colour

    def __str__(self):
        return f"covered {self.box} {self.colour}"


class Mirrored(Claim):
    """The picture is the same if it is flipped along an axis."""

    def __init__(self, axis):
        self.axis = claim_axis(axis)

    def first_fault(self, painting):
        return mirror_fault(painting.sheet, self.axis)

    def mirrors(self, axis):
        return axis == self.axis

    def holds(self, program, width, height):
        return outcome_on(self, program, width, height)[0]

    def fault(self, program, width, height):
        return outcome_on(self, program, width, height)[1]

    def singles(self):
        yield from single_claims(self)

    def __and__(self, other):
        return Both(self, other)

    def __or__(self, other):
        return Either(self, other)

    def __invert__(self):
        return Not(self)

    def __eq__(self, other):
        return isinstance(other, Mirrored) and self.axis == other.axis

    def __str__(self):
        return f"mirrored {self.axis}"


class Held(Claim):
    """No region of the flood with a number has a pixel outside of a box."""

    def __init__(self, index, box):
        self.index = claim_index(index)
        self.box = claim_box(box)

    def first_fault(self, painting):
        sheet = painting.sheet
        return held_fault(sheet, painting.marks[self.index], self.box(sheet.width, sheet.height))

    def places_on(self, axis):
        return list(box_ends(self.box, axis))

    def holds(self, program, width, height):
        return outcome_on(self, program, width, height)[0]

    def fault(self, program, width, height):
        return outcome_on(self, program, width, height)[1]

    def singles(self):
        yield from single_claims(self)

    def __and__(self, other):
        return Both(self, other)

    def __or__(self, other):
        return Either(self, other)

    def __invert__(self):
        return Not(self)

    def __eq__(self, other):
        return isinstance(other, Held) and self.index == other.index and self.box == other.box

    def __str__(self):
        return f"held {self.index} {self.box}"


class Both(Claim):
    """Two claims hold."""

    def __init__(self, one, other):
        check_two(one, other)
        self.one = one
        self.other = other

    def outcome(self, painting):
        held, fault = self.one.outcome(painting)
        return self.other.outcome(painting) if held else (held, fault)

    def holds(self, program, width, height):
        return outcome_on(self, program, width, height)[0]

    def fault(self, program, width, height):
        return outcome_on(self, program, width, height)[1]

    def singles(self):
        yield from single_claims(self)

    def __and__(self, other):
        return Both(self, other)

    def __or__(self, other):
        return Either(self, other)

    def __invert__(self):
        return Not(self)

    def __eq__(self, other):
        return isinstance(other, Both) and self.one == other.one and self.other == other.other

    def __str__(self):
        return f"both {self.one} {self.other}"


class Either(Claim):
    """One of two claims holds, or both hold."""

    def __init__(self, one, other):
        check_two(one, other)
        self.one = one
        self.other = other

    def outcome(self, painting):
        held, fault = self.one.outcome(painting)
        return (True, None) if held or self.other.outcome(painting)[0] else (False, fault)

    def holds(self, program, width, height):
        return outcome_on(self, program, width, height)[0]

    def fault(self, program, width, height):
        return outcome_on(self, program, width, height)[1]

    def singles(self):
        yield from single_claims(self)

    def __and__(self, other):
        return Both(self, other)

    def __or__(self, other):
        return Either(self, other)

    def __invert__(self):
        return Not(self)

    def __eq__(self, other):
        return isinstance(other, Either) and self.one == other.one and self.other == other.other

    def __str__(self):
        return f"either {self.one} {self.other}"


class Not(Claim):
    """A claim fails."""

    def __init__(self, claim):
        check_part(isinstance(claim, Claim), "claim")
        self.claim = claim
        # There may be more of them, one within another, than calls may be nested.
        self.core = claim.core if isinstance(claim, Not) else claim
        self.nots = claim.nots + 1 if isinstance(claim, Not) else 1

    def outcome(self, painting):
        return self.core.outcome(painting)[0] == (self.nots % 2 == 0), None

    def holds(self, program, width, height):
        return outcome_on(self, program, width, height)[0]

    def fault(self, program, width, height):
        return outcome_on(self, program, width, height)[1]

    def singles(self):
        yield from single_claims(self)

    def __and__(self, other):
        return Both(self, other)

    def __or__(self, other):
        return Either(self, other)

    def __invert__(self):
        return self.claim

    def __eq__(self, other):
        return isinstance(other, Not) and self.nots == other.nots and self.core == other.core

    def __str__(self):
        return f"{'not ' * self.nots}{self.core}"


def check_two(one, other):
    """Raises BadClaim for what is no claim, and TooMany for two that are too many together."""
    check_part(isinstance(one, Claim), "one")
    check_part(isinstance(other, Claim), "other")
    if len(single_claims(one)) + len(single_claims(other)) > Claim.MOST:
        raise TooMany("claims", Claim.MOST)


def single_claims(claim):
    """The list of the claims in a claim that are not joined of others, from the left."""
    if isinstance(claim, Not):
        return single_claims(claim.core)
    if isinstance(claim, (Both, Either)):
        return single_claims(claim.one) + single_claims(claim.other)
    return [claim]


def check_floods(claim, program):
    """Raises NoFlood for the first Held in a claim whose number is that of no flood of the program."""
    for single in single_claims(claim):
        if isinstance(single, Held) and single.index >= program.floods:
            raise NoFlood(single.index)


def outcome_on(claim, program, width, height):
    """Whether a claim holds for a program on a canvas, and its fault if it fails."""
    check_canvas(width, height)
    check_floods(claim, program)
    across = ruler("across", width, (program, claim))
    down = ruler("down", height, (program, claim))
    return claim.outcome(Painting(program, across, down))
