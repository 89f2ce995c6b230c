"""Claims [11]: made, joined, and looked at on canvases of all sizes."""

import random

from heldfloods.boxes import Box
from heldfloods.claims import Both, Claim, ColourAt, Covered, Either, Held, Mirrored, NoneLeft, Not
from heldfloods.deeds import Again, Copy, Fill, Flip, Flood, Frame, Grow, When
from heldfloods.edges import edges
from heldfloods.errors import BadClaim, BadSize, NoFlood, TooMany
from heldfloods.places import Place, from_left, from_middle, from_right
from heldfloods.programs import Program
from tests.helpers import (
    BIG, Case, is_whole, no_boxes, no_claims, no_colours, no_great_sizes, no_places, others,
)
from tests.naive import Maker, numbers, outcome

GREATEST = 10 ** 40
WHOLE = Box.whole()
INSIDE = Box.inside(1)
RING = Program(Frame(WHOLE, 1), Flood(from_middle(), from_middle(), 2))
MANY = Program(Again(9, Grow(1)), Again(9, Grow(1)))
NONE = NoneLeft(3)
CLASSES = [ColourAt, NoneLeft, Covered, Mirrored, Held, Both, Either, Not]
CLAIMS = [ColourAt(1, from_right(1), 2), NoneLeft(2), Covered(INSIDE, 3), Mirrored("down"), Held(0, INSIDE),
          Both(NONE, NoneLeft(4)), Either(NONE, NoneLeft(4)), Not(NONE)]


def joined(many):
    """A claim with so many claims of the first five classes."""
    claim = NoneLeft(1)
    for _ in range(many - 1):
        claim = Both(claim, NoneLeft(1))
    return claim


def whole_side(claim, program, size):
    return claim.holds(program, size, size), claim.fault(program, size, size)


class Made(Case):
    def test_attributes(self):
        claim = ColourAt(3, from_middle(), 4)
        self.assertEqual((claim.x, claim.y, claim.colour), (from_left(3), from_middle(), 4))
        self.assertIs(type(claim.x), Place)
        self.assertEqual((NoneLeft(0).colour, Covered(WHOLE, 9).box, Covered(WHOLE, 9).colour), (0, WHOLE, 9))
        self.assertEqual((Mirrored("across").axis, Mirrored(axis="down").axis), ("across", "down"))
        self.assertEqual((Held(7, INSIDE).index, Held(7, INSIDE).box), (7, INSIDE))
        for joining in (Both, Either):
            claim = joining(one=NONE, other=NoneLeft(5))
            self.assertEqual((claim.one, claim.other), (NONE, NoneLeft(5)))
        self.assertEqual(Not(claim=NONE).claim, NONE)
        self.assertEqual(ColourAt(x=BIG, y=-BIG, colour=0).y, from_left(-BIG))
        self.assertEqual(Claim.MOST, 8)

    def test_bases(self):
        for claim, own in zip(CLAIMS, CLASSES):
            self.assertEqual([isinstance(claim, one) for one in CLASSES], [one is own for one in CLASSES])
            self.assertIsInstance(claim, Claim)

    def test_methods_stand_in_their_classes(self):
        for one in [Claim, *CLASSES]:
            for name in ("holds", "fault", "singles", "__and__", "__or__", "__invert__", "__eq__", "__str__"):
                self.assertIn(name, vars(one))

    def test_colour_at(self):
        for value in no_places():
            self.refused(BadClaim("x"), ColourAt, value, None, None)
            self.refused(BadClaim("y"), ColourAt, 0, value, None)
        for value in no_colours():
            self.refused(BadClaim("colour"), ColourAt, from_right(), 0, value)

    def test_none_left(self):
        for value in no_colours():
            self.refused(BadClaim("colour"), NoneLeft, value)

    def test_covered(self):
        for value in no_boxes():
            self.refused(BadClaim("box"), Covered, value, None)
        for value in no_colours():
            self.refused(BadClaim("colour"), Covered, WHOLE, value)

    def test_mirrored(self):
        for value in others(lambda value: isinstance(value, str) and value in ("across", "down")):
            self.refused(BadClaim("axis"), Mirrored, value)

    def test_held(self):
        for value in others(lambda value: is_whole(value) and value >= 0):
            self.refused(BadClaim("index"), Held, value, None)
        for value in no_boxes():
            self.refused(BadClaim("box"), Held, 0, value)

    def test_joined(self):
        for value in no_claims():
            self.refused(BadClaim("claim"), Not, value)
            for joining in (Both, Either):
                self.refused(BadClaim("one"), joining, value, None)
                self.refused(BadClaim("other"), joining, NONE, value)

    def test_eight_and_nine(self):
        eight = joined(8)
        self.assertEqual(len(list(eight.singles())), 8)
        self.assertEqual(len(list((~eight).singles())), 8)
        self.assertEqual(len(list(Either(joined(3), Not(joined(5))).singles())), 8)
        for joining in (Both, Either):
            self.refused(TooMany("claims", 8), joining, eight, NONE)
            self.refused(TooMany("claims", 8), joining, NONE, Not(eight))
            self.refused(TooMany("claims", 8), joining, joined(4), joined(5))
            self.refused(BadClaim("other"), joining, eight, None)
        self.refused(TooMany("claims", 8), lambda: eight & NONE)
        self.refused(TooMany("claims", 8), lambda: NONE | eight)


class Signs(Case):
    def test_joining(self):
        for one in CLAIMS:
            for other in CLAIMS:
                self.same(one & other, Both(one, other))
                self.same(one | other, Either(one, other))

    def test_not(self):
        for claim in CLAIMS[:-1]:
            self.same(~claim, Not(claim))
            self.same(~~claim, claim)
            self.same(~Not(Not(claim)), Not(claim))
        self.same(~CLAIMS[-1], NONE)

    def test_what_is_no_claim(self):
        for claim in CLAIMS:
            for value in no_claims():
                self.refused(BadClaim("other"), lambda: claim & value)
                self.refused(BadClaim("other"), lambda: claim | value)

    def test_equality(self):
        apart = [*CLAIMS, ColourAt(2, from_right(1), 2), ColourAt(1, from_right(), 2), ColourAt(1, from_right(1), 3),
                 NoneLeft(1), Covered(WHOLE, 3), Covered(INSIDE, 4), Mirrored("across"), Held(1, INSIDE),
                 Held(0, WHOLE), Not(NoneLeft(4)), Not(Not(NONE)), Not(Not(Not(NONE)))]
        for one, other in ((NoneLeft(4), NONE), (NONE, NONE), (NoneLeft(4), NoneLeft(4))):
            apart.extend([Both(one, other), Either(one, other)])
        for at, one in enumerate(apart):
            for beside, other in enumerate(apart):
                self.same(one == other, at == beside)
                self.same(one != other, at != beside)
            for value in no_claims():
                self.assertFalse(one == value)
        self.assertTrue(ColourAt(1, 2, 3) == ColourAt(from_left(1), Place(0, 2), 3))

    def test_texts(self):
        self.assertEqual([str(claim) for claim in CLAIMS], [
            "colour left 1 right 1 2", "none 2", "covered left 1 right 1 left 1 right 1 3", "mirrored down",
            "held 0 left 1 right 1 left 1 right 1", "both none 3 none 4", "either none 3 none 4", "not none 3"])
        self.assertEqual(str(Not(Not(NONE))), "not not none 3")
        self.assertEqual(str(~(NONE & ~NONE) | Mirrored("across")), "either not both none 3 not none 3 mirrored across")

    def test_singles(self):
        a, b, c = NoneLeft(1), Mirrored("down"), Held(3, WHOLE)
        self.assertEqual(list(Either(~(a & b), Both(Not(Not(c)), a)).singles()), [a, b, c, a])
        for claim in CLAIMS[:5]:
            self.assertEqual(list(claim.singles()), [claim])

    def test_many_nots(self):
        claim = NoneLeft(2)
        for _ in range(5000):
            claim = Not(claim)
        self.assertEqual(claim.holds(RING, 3, 3), False)
        self.assertEqual(Not(claim).holds(RING, 3, 3), True)
        self.assertEqual((str(claim)[:8], len(str(claim)), len(list(claim.singles()))), ("not not ", 20006, 1))
        self.assertTrue(claim == Not(claim.claim))
        self.assertFalse(claim == claim.claim)


class OnCanvases(Case):
    def test_by_the_definitions(self):
        source = random.Random(51)
        maker = Maker(source)
        told = {True: 0, False: 0}
        for _ in range(700):
            program = maker.program() + maker.flood()
            claim = maker.claim(program.floods, source.choice([1, 1, 2, 4]))
            for _ in range(3):
                width, height = source.randint(1, 8), source.randint(1, 7)
                try:
                    found = claim.holds(program, width, height), claim.fault(program, width, height)
                except TooMany:
                    continue
                self.same(found, outcome(claim, program, width, height))
                told[found[0]] += 1
        self.assertGreater(min(told.values()), 500)

    def test_colour_at(self):
        self.assertEqual(whole_side(ColourAt(from_right(1), from_middle(), 1), RING, 5), (True, None))
        self.assertEqual(whole_side(ColourAt(from_right(1), from_middle(), 2), RING, 5), (False, (4, 2)))
        for place in (-1, from_right(), 5):
            self.assertEqual(whole_side(ColourAt(place, 0, 7), RING, 5), (True, None))
            self.assertEqual(whole_side(ColourAt(0, place, 7), RING, 5), (True, None))

    def test_first_pixels(self):
        program = Program(Fill(Box(3, 4, 1, 2), 5), Fill(Box(1, 2, 2, 3), 5))
        self.assertEqual(NoneLeft(5).fault(program, 5, 4), (3, 1))
        self.assertEqual(NoneLeft(0).fault(program, 5, 4), (0, 0))
        self.assertEqual(Covered(Box(1, 9, 1, 9), 5).fault(program, 5, 4), (1, 1))
        self.assertEqual(Covered(Box(3, 4, 1, from_right()), 5).fault(program, 5, 4), (3, 2))
        self.assertEqual(Mirrored("across").fault(program, 5, 4), (1, 1))
        self.assertEqual(Mirrored("down").fault(program, 5, 5), (3, 1))
        self.assertEqual(Mirrored("down").fault(program, 5, 4), (1, 1))

    def test_empty_boxes(self):
        self.assertEqual(whole_side(Covered(Box(2, 2, 0, 9), 7), RING, 5), (True, None))
        self.assertEqual(whole_side(Covered(Box(0, 9, 4, 1), 7), RING, 5), (True, None))
        self.assertEqual(whole_side(Covered(Box(5, 9, 0, 1), 7), RING, 5), (True, None))
        self.assertEqual(whole_side(Held(0, Box(3, 3, 0, 9)), RING, 5), (False, (1, 1)))
        self.assertEqual(whole_side(Held(0, Box(0, 9, 9, 12)), RING, 5), (False, (1, 1)))

    def test_held_at_any_time(self):
        # The second time the region is the whole canvas; its first pixel outside counts, not that of the first time.
        box = Box(1, from_right(), 1, from_right())
        program = Program(Fill(Box(1, 2, 1, 2), 1), Again(2, Flood(1, 1, 0)))
        self.assertEqual(Held(0, box).fault(program, 3, 3), (0, 0))
        self.assertEqual(Held(0, Box(0, 1, 0, 1)).fault(program, 3, 3), (1, 0))
        never = Program(Again(0, Flood(0, 0, 1)), When(0, 0, 1, [Flood(0, 0, 1)]), Flood(from_right(), 0, 1))
        for index in range(3):
            self.assertEqual(whole_side(Held(index, Box(0, 0, 0, 0)), never, 4), (True, None))

    def test_joined(self):
        bad, worse, good = NoneLeft(1), NoneLeft(2), NoneLeft(3)
        for claim, wanted in (
                (bad & good, (False, (0, 0))), (good & worse, (False, (1, 1))), (bad & worse, (False, (0, 0))),
                (worse & bad, (False, (1, 1))), (good & good, (True, None)), (bad | worse, (False, (0, 0))),
                (worse | bad, (False, (1, 1))), (bad | good, (True, None)), (good | bad, (True, None)),
                (~good, (False, None)), (~bad, (True, None)), (~good | bad, (False, None)),
                (bad | ~good, (False, (0, 0))),
                (~good & bad, (False, None)), (bad & ~good, (False, (0, 0))), (~(bad & good), (True, None)),
                (Not(Not(bad)), (False, None)), (Not(Not(good)), (True, None))):
            self.assertEqual(whole_side(claim, RING, 3), wanted, str(claim))

    def test_great_sizes(self):
        size = 10 ** 39 + 1
        self.assertEqual(whole_side(ColourAt(from_middle(), from_right(2), 2), RING, size), (True, None))
        self.assertEqual(whole_side(NoneLeft(2), RING, size), (False, (1, 1)))
        self.assertEqual(whole_side(Held(0, INSIDE), RING, size), (True, None))
        self.assertEqual(whole_side(Held(0, Box(0, from_right(2), 0, from_right())), RING, size),
                         (False, (size - 2, 1)))
        self.assertEqual(whole_side(Mirrored("across") & Mirrored("down"), RING, size), (True, None))
        dotted = RING + Fill(Box(from_middle(3), from_middle(4), from_right(5), from_right(4)), 7)
        half = size // 2
        self.assertEqual(whole_side(Mirrored("down"), dotted, size), (False, (half + 3, 4)))
        self.assertEqual(whole_side(Mirrored("across"), dotted, size), (False, (half - 3, size - 5)))
        self.assertEqual(whole_side(Covered(INSIDE, 2), dotted, size), (False, (half + 3, size - 5)))
        self.assertEqual(whole_side(Covered(Box(from_left(10 ** 12), from_middle(), 1, 9), 2), dotted, GREATEST),
                         (True, None))


class Refused(Case):
    def test_sizes(self):
        claim = Held(5, WHOLE)
        for call in (claim.holds, claim.fault, (~claim).holds, (claim & NONE).fault):
            for value in no_great_sizes():
                self.refused(BadSize("width"), call, MANY, value, None)
                self.refused(BadSize("height"), call, MANY, GREATEST, value)
            self.refused(BadSize("height"), call, program=MANY, width=1, height=0)

    def test_floods(self):
        for claim, index in ((Held(1, WHOLE), 1), (NONE & Held(7, WHOLE) & Held(2, WHOLE), 7), (~Held(1, WHOLE), 1),
                             (Either(Held(0, WHOLE), ~~(NONE | Held(10 ** 59, WHOLE))), 10 ** 59)):
            for call in (claim.holds, claim.fault):
                self.refused(NoFlood(index), call, RING, 3, 3)
                self.refused(BadSize("width"), call, RING, 0, 3)
        self.refused(NoFlood(0), Held(0, WHOLE).holds, MANY, 3, 3)
        self.refused(NoFlood(0), (NONE | Held(0, WHOLE)).fault, Program(), 3, 3)

    def test_edges_of_the_program_alone(self):
        self.refused(TooMany("edges", 60), NONE.holds, MANY, 1, 1)
        self.refused(TooMany("edges", 60), NONE.fault, MANY, 1, 1)
        full = Program(*[Fill(Box(4 * k + 1, 4 * k + 3, 0, 1), 1) for k in range(14)],
                       Fill(Box(70, from_right(1), 0, 1), 2))
        self.assertEqual(len(edges("across", full)), 32)
        wide = full + Flip("across")
        self.assertEqual(len(edges("across", wide)), 60)
        claim = Covered(Box(71, 75, 0, 1), 0) & Held(0, WHOLE) & Mirrored("across")
        self.refused(NoFlood(0), claim.holds, wide, 99, 2)
        self.assertEqual(Covered(Box(71, 75, 0, 1), 2).holds(wide, 99, 2), outcome_of(wide, 99)[0])
        self.assertEqual(Mirrored("across").fault(wide, 99, 2), outcome_of(wide, 99)[1])


def outcome_of(program, width):
    """Whether the columns 71 to 74 of a program have the colour 2, and where it is not mirrored, on two rows."""
    return (outcome(Covered(Box(71, 75, 0, 1), 2), program, width, 2)[0],
            outcome(Mirrored("across"), program, width, 2)[1])


class Edges(Case):
    def texts(self, axis, *things):
        return [str(place) for place in edges(axis, *things)]

    def test_what_claims_add(self):
        for claim, across, down in (
                (NONE, [], []), (ColourAt(3, from_middle(), 1), ["left 3", "left 4"], ["middle 0", "middle 1"]),
                (Covered(Box(1, from_middle(), 2, 3), 1), ["left 1", "middle 0"], ["left 2", "left 3"]),
                (Held(9, Box(1, from_middle(), 2, 3)), ["left 1", "middle 0"], ["left 2", "left 3"])):
            for one in (claim, Not(claim), NONE & claim, ~(claim | NONE)):
                self.assertEqual(self.texts("across", Program(), one), ["left 0", *across, "right 0"])
                self.assertEqual(self.texts("down", Program(), one), ["left 0", *down, "right 0"])

    def test_mirrors_of_all(self):
        one, two = Program(Fill(Box(1, 2, 3, 4), 1)), Program(Flood(7, 0, 1))
        claim = Either(Mirrored("across"), Covered(Box(20, 30, 0, 1), 1))
        self.assertEqual(self.texts("across", one, claim, two), [
            "left 0", "left 1", "left 2", "left 7", "left 8", "left 20", "left 30",
            "right 30", "right 20", "right 8", "right 7", "right 2", "right 1", "right 0"])
        self.assertEqual(self.texts("down", one, claim, two), ["left 0", "left 1", "left 3", "left 4", "right 0"])
        self.assertEqual(self.texts("across", claim, one, two), self.texts("across", two, claim, one))
        self.assertEqual(self.texts("down", Program(Fill(WHOLE, 1)), Not(Mirrored("down"))), ["left 0", "right 0"])

    def test_claims_and_copies(self):
        # A claim looks at the set behind all programs: a copy does not move what a claim adds.
        program = Program(Copy(Box(0, 2, 0, 1), 10, 0))
        claim = Covered(Box(3, 4, 0, 1), 1)
        self.assertEqual(len(self.texts("across", claim, program)), len(self.texts("across", program)) + 2)

    def test_too_many(self):
        claim = Covered(Box(100, 101, 0, 1), 1)
        full = Program(*[Fill(Box(4 * k + 1, 4 * k + 3, 0, 1), 1) for k in range(14)],
                       Fill(Box(70, from_right(1), 0, 1), 2), Flip("across"))
        self.assertEqual(len(edges("across", full)), 60)
        self.refused(TooMany("edges", 60), edges, "across", full, claim)
        self.refused(TooMany("edges", 60), edges, "across", full.without(15), Mirrored("across") & claim)
        self.assertEqual(len(edges("across", full.without(15), Mirrored("across"))), 60)
        self.assertEqual(len(edges("down", full, claim)), 3)

    def test_by_the_definitions(self):
        source = random.Random(52)
        maker = Maker(source)
        for _ in range(300):
            program = maker.program()
            claim = maker.claim(9, 3)
            for axis in ("across", "down"):
                try:
                    wanted = {numbers(place) for place in edges(axis, program)}
                except TooMany:
                    continue
                mirrors = False
                for single in claim.singles():
                    if isinstance(single, ColourAt):
                        place = single.x if axis == "across" else single.y
                        wanted |= {numbers(place), numbers(place + 1)}
                    elif isinstance(single, (Covered, Held)):
                        box = single.box
                        wanted |= {numbers(place)
                                   for place in ((box.x0, box.x1) if axis == "across" else (box.y0, box.y1))}
                    elif isinstance(single, Mirrored) and single.axis == axis:
                        mirrors = True
                if mirrors:
                    wanted |= {(2 - slope, -offset, 1 - odd) for slope, offset, odd in wanted}
                if len(wanted) > 60:
                    self.refused(TooMany("edges", 60), edges, axis, program, claim)
                else:
                    self.assertEqual([numbers(place) for place in edges(axis, program, claim)], sorted(wanted))
