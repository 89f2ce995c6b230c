"""Claims: what may hold or fail for a program on a canvas."""

from heldfloods.boxes import box_ends
from heldfloods.claimparts import check_part, claim_axis, claim_box, claim_colour, claim_index, claim_place
from heldfloods.errors import TooMany
from heldfloods.outcomes import outcome_on


class Claim:
    """The base of all claims."""

    MOST = 8

    def wrong_cells(self, board, at):
        """The set of the cells at which a claim that is not joined of others fails; its marks have the number at."""
        return 0

    def outcome(self, board, at):
        """Whether the claim holds for a board, and a set of cells: its fault, if it has one, is the first pixel of it.

        The marks of the claims in it have the numbers from at on.
        """
        wrong = self.wrong_cells(board, at)
        return wrong == 0, wrong

    def marks(self, ruler):
        """What the claim needs of an axis at a size."""
        places = self.places_on(ruler.axis)
        return ruler.span(*places) if places else 0

    def places_on(self, axis):
        """The list of the places that the claim adds to the edges of an axis."""
        return []

    def mirrors(self, axis):
        """Whether the claim adds the mirrors of all edges of an axis."""
        return False

    def least_floods(self):
        """How many floods a program must have to be asked by the claim itself."""
        return 0

    def holds(self, program, width, height):
        """Whether the claim holds for a program on a canvas."""
        return outcome_on(self, program, width, height)[0]

    def fault(self, program, width, height):
        """The fault of the claim for a program on a canvas, None if it holds or has none."""
        return outcome_on(self, program, width, height)[1]

    def singles(self):
        """Yields the claims in it that are not joined of others, from the left."""
        yield from single_claims(self)

    def __and__(self, other):
        return Both(self, other)

    def __or__(self, other):
        return Either(self, other)

    def __invert__(self):
        return Not(self)

    def __eq__(self, other):
        return type(other) is Claim

    def __str__(self):
        return "claim"


class ColourAt(Claim):
    """A pixel, if there is one at a place, has a colour."""

    def __init__(self, x, y, colour):
        self.x = claim_place(x, "x")
        self.y = claim_place(y, "y")
        self.colour = claim_colour(colour)

    def wrong_cells(self, board, at):
        return board.patch(at) & ~board.having(self.colour)

    def places_on(self, axis):
        place = self.x if axis == "across" else self.y
        return [place, place + 1]

    def holds(self, program, width, height):
        return outcome_on(self, program, width, height)[0]

    def fault(self, program, width, height):
        return outcome_on(self, program, width, height)[1]

    def singles(self):
        yield from single_claims(self)

    def __and__(self, other):
        return Both(self, other)

    def __or__(self, other):
        return Either(self, other)

    def __invert__(self):
        return Not(self)

    def __eq__(self, other):
        return (isinstance(other, ColourAt) and self.x == other.x and self.y == other.y
                and self.colour == other.colour)

    def __str__(self):
        return f"colour {self.x} {self.y} {self.colour}"


class NoneLeft(Claim):
    """No pixel has a colour."""

    def __init__(self, colour):
        self.colour = claim_colour(colour)

    def wrong_cells(self, board, at):
        return board.having(self.colour)

    def holds(self, program, width, height):
        return outcome_on(self, program, width, height)[0]

    def fault(self, program, width, height):
        return outcome_on(self, program, width, height)[1]

    def singles(self):
        yield from single_claims(self)

    def __and__(self, other):
        return Both(self, other)

    def __or__(self, other):
        return Either(self, other)

    def __invert__(self):
        return Not(self)

    def __eq__(self, other):
        return isinstance(other, NoneLeft) and self.colour == other.colour

    def __str__(self):
        return f"none {self.colour}"


class Covered(Claim):
    """All pixels of a box have a colour."""

    def __init__(self, box, colour):
        self.box = claim_box(box)
        self.colour = claim_colour(colour)

    def wrong_cells(self, board, at):
        return board.patch(at) & ~board.having(self.colour)

    def places_on(self, axis):
        return list(box_ends(self.box, axis))

    def holds(self, program, width, height):
        return outcome_on(self, program, width, height)[0]

    def fault(self, program, width, height):
        return outcome_on(self, program, width, height)[1]

    def singles(self):
        yield from single_claims(self)

    def __and__(self, other):
        return Both(self, other)

    def __or__(self, other):
        return Either(self, other)

    def __invert__(self):
        return Not(self)

    def __eq__(self, other):
        return isinstance(other, Covered) and self.box == other.box and self.colour == other.colour

    def __str__(self):
        return f"covered {self.box} {self.colour}"


class Mirrored(Claim):
    """The picture is the same if it is flipped along an axis."""

    def __init__(self, axis):
        self.axis = claim_axis(axis)

    def wrong_cells(self, board, at):
        return board.marked(board.colours ^ board.turned_colours(self.axis, at))

    def marks(self, ruler):
        return ruler.turned() if self.mirrors(ruler.axis) else ()

    def mirrors(self, axis):
        return axis == self.axis

    def holds(self, program, width, height):
        return outcome_on(self, program, width, height)[0]

    def fault(self, program, width, height):
        return outcome_on(self, program, width, height)[1]

    def singles(self):
        yield from single_claims(self)

    def __and__(self, other):
        return Both(self, other)

    def __or__(self, other):
        return Either(self, other)

    def __invert__(self):
        return Not(self)

    def __eq__(self, other):
        return isinstance(other, Mirrored) and self.axis == other.axis

    def __str__(self):
        return f"mirrored {self.axis}"


class Held(Claim):
    """No region of the flood with a number has a pixel outside of a box."""

    def __init__(self, index, box):
        self.index = claim_index(index)
        self.box = claim_box(box)

    def wrong_cells(self, board, at):
        return board.escaped(self.index, at)

    def places_on(self, axis):
        return list(box_ends(self.box, axis))

    def least_floods(self):
        return self.index + 1

    def holds(self, program, width, height):
        return outcome_on(self, program, width, height)[0]

    def fault(self, program, width, height):
        return outcome_on(self, program, width, height)[1]

    def singles(self):
        yield from single_claims(self)

    def __and__(self, other):
        return Both(self, other)

    def __or__(self, other):
        return Either(self, other)

    def __invert__(self):
        return Not(self)

    def __eq__(self, other):
        return isinstance(other, Held) and self.index == other.index and self.box == other.box

    def __str__(self):
        return f"held {self.index} {self.box}"


class Both(Claim):
    """Two claims hold."""

    def __init__(self, one, other):
        self.ahead = checked_many(one, other)
        self.one = one
        self.other = other

    def outcome(self, board, at):
        held, wrong = self.one.outcome(board, at)
        return self.other.outcome(board, at + self.ahead) if held else (held, wrong)

    def holds(self, program, width, height):
        return outcome_on(self, program, width, height)[0]

    def fault(self, program, width, height):
        return outcome_on(self, program, width, height)[1]

    def singles(self):
        yield from single_claims(self)

    def __and__(self, other):
        return Both(self, other)

    def __or__(self, other):
        return Either(self, other)

    def __invert__(self):
        return Not(self)

    def __eq__(self, other):
        return isinstance(other, Both) and self.one == other.one and self.other == other.other

    def __str__(self):
        return f"both {self.one} {self.other}"


class Either(Claim):
    """One of two claims holds, or both hold."""

    def __init__(self, one, other):
        self.ahead = checked_many(one, other)
        self.one = one
        self.other = other

    def outcome(self, board, at):
        held, wrong = self.one.outcome(board, at)
        return (True, 0) if held or self.other.outcome(board, at + self.ahead)[0] else (False, wrong)

    def holds(self, program, width, height):
        return outcome_on(self, program, width, height)[0]

    def fault(self, program, width, height):
        return outcome_on(self, program, width, height)[1]

    def singles(self):
        yield from single_claims(self)

    def __and__(self, other):
        return Both(self, other)

    def __or__(self, other):
        return Either(self, other)

    def __invert__(self):
        return Not(self)

    def __eq__(self, other):
        return isinstance(other, Either) and self.one == other.one and self.other == other.other

    def __str__(self):
        return f"either {self.one} {self.other}"


class Not(Claim):
    """A claim fails."""

    def __init__(self, claim):
        check_part(isinstance(claim, Claim), "claim")
        self.claim = claim
        # There may be more of them, one within another, than calls may be nested.
        self.core = claim.core if isinstance(claim, Not) else claim
        self.nots = claim.nots + 1 if isinstance(claim, Not) else 1

    def outcome(self, board, at):
        return self.core.outcome(board, at)[0] == (self.nots % 2 == 0), 0

    def holds(self, program, width, height):
        return outcome_on(self, program, width, height)[0]

    def fault(self, program, width, height):
        return outcome_on(self, program, width, height)[1]

    def singles(self):
        yield from single_claims(self)

    def __and__(self, other):
        return Both(self, other)

    def __or__(self, other):
        return Either(self, other)

    def __invert__(self):
        return self.claim

    def __eq__(self, other):
        return isinstance(other, Not) and self.nots == other.nots and self.core == other.core

    def __str__(self):
        return f"{'not ' * self.nots}{self.core}"


def checked_many(one, other):
    """How many claims that are not joined are in the first of two claims.

    Raises BadClaim for what is no claim, and TooMany for two with too many of them together.
    """
    check_part(isinstance(one, Claim), "one")
    check_part(isinstance(other, Claim), "other")
    many = len(single_claims(one))
    if many + len(single_claims(other)) > Claim.MOST:
        raise TooMany("claims", Claim.MOST)
    return many


def single_claims(claim):
    """The list of the claims in a claim that are not joined of others, from the left."""
    if isinstance(claim, Not):
        return single_claims(claim.core)
    if isinstance(claim, (Both, Either)):
        return single_claims(claim.one) + single_claims(claim.other)
    return [claim]
