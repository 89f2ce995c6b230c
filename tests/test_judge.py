"""Verdicts [12], [17]: whether a claim holds on all canvases, and the least one on which it fails."""

import random
import time

from heldfloods.boxes import Box
from heldfloods.claims import Both, ColourAt, Covered, Held, Mirrored, NoneLeft
from heldfloods.classes import classes, pairs
from heldfloods.deeds import Again, Copy, Fill, Flip, Flood, Frame, Grow, Swap
from heldfloods.edges import edges
from heldfloods.errors import BadClaim, BadProgram, Fails, Gap, NoFlood, TooMany
from heldfloods.judge import No, Verdict, Yes, failing, judge, need, safe_from
from heldfloods.places import from_left, from_middle, from_right
from heldfloods.programs import Program
from tests.helpers import VALUES, Case, no_claims, no_programs
from tests.naive import Maker, canvases, outcome

WHOLE = Box.whole()
INSIDE = Box.inside(1)
RING = Program(Frame(WHOLE, 1), Flood(from_middle(), from_middle(), 2))
MANY_EDGES = Program(Again(9, Grow(1)), Again(9, Grow(1)))
MANY_PAIRS = Program(*[Fill(Box(4 * k, 4 * k + 2, 4 * k, 4 * k + 2), 1) for k in range(1, 16)])
SMALL = canvases(6, 5)


def key(size):
    return size[0] + size[1], size[0]


def some_cases(seed, many):
    """Programs and claims that are not refused."""
    source = random.Random(seed)
    maker, found = Maker(source), []
    while len(found) < many:
        program = maker.program() + maker.flood()
        claim = maker.claim(program.floods, source.choice([1, 1, 2, 3]))
        try:
            judge(program, claim)
        except TooMany:
            continue
        found.append((program, claim))
    return found


class Judged(Case):
    def test_beside_all_small_canvases(self):
        told = {True: 0, False: 0}
        for program, claim in some_cases(71, 90):
            fails = {size: fault for size in SMALL
                     for held, fault in [outcome(claim, program, *size)] if not held}
            verdict = judge(program, claim)
            told[bool(verdict)] += 1
            if verdict:
                self.assertEqual(fails, {})
                continue
            least = verdict.width, verdict.height
            if fails and key(min(fails, key=key)) < key(least) or least in SMALL:
                self.assertEqual(least, min(fails, key=key), (str(program), str(claim)))
                self.same(verdict.pixel, fails[least])
            self.assertEqual(outcome(claim, program, *least), (False, verdict.pixel))
        self.assertGreater(min(told.values()), 20)

    def test_the_classes_of_a_yes(self):
        for program, claim in some_cases(72, 60):
            verdict = judge(program, claim)
            if verdict:
                widths = list(classes(edges("across", program, claim)))
                heights = list(classes(edges("down", program, claim)))
                self.same(verdict.widths, widths)
                self.same(verdict.heights, heights)
                self.same(verdict.paper, ("yes", tuple((one.low, one.high) for one in widths),
                                          tuple((one.low, one.high) for one in heights)))

    def test_far_out(self):
        far = 10 ** 9
        program = Program(Fill(Box(far, far + 1, 0, 1), 4))
        verdict = judge(program, NoneLeft(4))
        self.assertEqual((verdict.paper, verdict.pixel), (("no", far + 1, 1), (far, 0)))
        self.assertTrue(judge(program, ColourAt(far, 0, 4)))
        verdict = judge(program, ColourAt(far, far, 4))
        self.assertEqual((verdict.paper, verdict.pixel), (("no", far + 1, far + 1), (far, far)))
        self.assertEqual(safe_from(program, NoneLeft(4)), None)

    def test_least_by_sum_and_then_by_width(self):
        # It fails at 3 by 1, 2 by 2 and 1 by 3: these have one sum.
        program = Program(Fill(Box(2, 3, 0, 1), 1), Fill(Box(1, 2, 1, 2), 1), Fill(Box(0, 1, 2, 3), 1))
        self.assertEqual(judge(program, NoneLeft(1)).paper, ("no", 1, 3))
        self.assertEqual(judge(program.without(2), NoneLeft(1)).paper, ("no", 2, 2))
        self.assertEqual(judge(program.without(1).without(1), NoneLeft(1)).paper, ("no", 3, 1))

    def test_without_a_fault(self):
        verdict = judge(RING, ~NoneLeft(3))
        self.assertEqual((verdict.paper, verdict.pixel), (("no", 1, 1), None))
        self.assertEqual(judge(RING, ~NoneLeft(3) | NoneLeft(2)).pixel, None)
        self.assertEqual(judge(RING, NoneLeft(2) | ~NoneLeft(3)).pixel, (0, 0))

    def test_attributes(self):
        yes, no = judge(program=RING, claim=NoneLeft(0) | NoneLeft(7)), judge(RING, Held(0, INSIDE))
        self.assertTrue(isinstance(yes, Yes) and isinstance(yes, Verdict) and not isinstance(yes, No))
        self.assertTrue(isinstance(no, No) and isinstance(no, Verdict) and not isinstance(no, Yes))
        self.assertEqual((bool(yes), bool(no)), (True, False))
        self.assertEqual((no.width, no.height, no.pixel, no.paper), (1, 1, (0, 0), ("no", 1, 1)))
        for one in (Verdict, Yes, No):
            self.assertIsInstance(vars(one)["paper"], property)
            for name in ("__bool__", "__eq__"):
                self.assertIn(name, vars(one))
        yes.widths.clear()
        self.assertEqual(yes, judge(RING, NoneLeft(7)))

    def test_equality(self):
        found = [judge(RING, NoneLeft(7)), judge(RING + Grow(1), NoneLeft(7)), judge(RING, NoneLeft(2)),
                 judge(Program(Fill(Box(1, 2, 0, 1), 2)), NoneLeft(2)),
                 judge(Program(Fill(Box(0, 1, 1, 2), 2)), NoneLeft(2))]
        for at, one in enumerate(found):
            for beside, other in enumerate(found):
                self.same(one == other, at == beside)
            for value in VALUES + [one.paper]:
                self.assertFalse(one == value)
        # The pixel plays no part.
        self.assertTrue(found[2] == judge(RING, ~NoneLeft(2) & NoneLeft(3)) or found[2] == judge(RING, ~NoneLeft(3)))
        self.assertNotEqual(judge(RING, ~NoneLeft(3)).pixel, found[2].pixel)
        self.assertTrue(found[2] == judge(RING, ~NoneLeft(3)))


class AllThatFail(Case):
    def test_beside_all_small_canvases(self):
        for program, claim in some_cases(73, 80):
            found = list(failing(program, claim))
            for size in SMALL:
                fails = any(size[0] in wide and size[1] in high for wide, high in found)
                self.same(claim.holds(program, *size), not fails)
            ordered = [pair for pair in pairs(program, claim) if pair in found]
            self.assertEqual(ordered, found)

    def test_one_at_a_time(self):
        walk = failing(program=RING, claim=ColourAt(0, 0, 1))
        self.assertEqual([str(one) for one in next(walk)], ["1", "1"])
        self.assertEqual([str(one) for one in next(walk)], ["1", "2"])

    def test_none(self):
        self.assertEqual(list(failing(RING, NoneLeft(9))), [])


class Safe(Case):
    def test_beside_all_small_canvases(self):
        told = 0
        for program, claim in some_cases(74, 80):
            found = safe_from(program, claim)
            fails = [(wide, high) for wide, high in failing(program, claim)]
            reach = [min(float("inf") if one.high is None else one.high for one in pair) for pair in fails]
            most = max(reach, default=0)
            self.same(found, None if most == float("inf") else most + 1)
            if found is not None and found > 1:
                told += 1
                sizes = [size for size in SMALL if min(size) >= found]
                self.assertTrue(all(outcome(claim, program, *size)[0] for size in sizes))
        self.assertGreater(told, 5)

    def test_edges(self):
        self.assertEqual(safe_from(RING, NoneLeft(9)), 1)
        self.assertEqual(safe_from(program=RING, claim=NoneLeft(1)), None)
        self.assertEqual(safe_from(RING, ColourAt(0, 0, 1)), 3)
        # It fails at the width 4 for all heights, and at no other one.
        four = Program(Fill(Box(3, from_right(), 0, from_right()), 1), Flood(4, 0, 0))
        self.assertEqual([str(one) for pair in failing(four, NoneLeft(1)) for one in pair], 
                         ["4", "1", "4", "2..", "4", "3.."])
        self.assertEqual(safe_from(four, NoneLeft(1)), 5)


class Needed(Case):
    def test_yes(self):
        self.assertIsNone(need(RING, NoneLeft(9)))
        self.assertIsNone(need(program=RING, claim=NoneLeft(9)))

    def test_no(self):
        for program, claim in some_cases(75, 60):
            verdict = judge(program, claim)
            if verdict:
                self.assertIsNone(need(program, claim))
                continue
            with self.assertRaises(Fails) as caught:
                need(program, claim)
            self.assertEqual((caught.exception.width, caught.exception.height), (verdict.width, verdict.height))
            if verdict.pixel is None:
                self.assertIsNone(caught.exception.__cause__)
            else:
                self.assertIs(type(caught.exception.__cause__), Gap)
                self.assertEqual((caught.exception.__cause__.x, caught.exception.__cause__.y), verdict.pixel)

    def test_without_a_fault(self):
        with self.assertRaises(Fails) as caught:
            need(RING, ~NoneLeft(9))
        self.assertEqual(vars(caught.exception), {"width": 1, "height": 1})
        self.assertIsNone(caught.exception.__cause__)


class Refused(Case):
    def calls(self):
        return (judge, lambda *things: next(failing(*things)), safe_from, need)

    def test_programs_and_claims(self):
        for call in self.calls():
            for value in no_programs():
                self.refused(BadProgram(0), call, value, None)
            for value in no_claims():
                self.refused(BadClaim("claim"), call, MANY_EDGES, value)

    def test_edges_and_pairs_and_floods(self):
        claim = Held(1, WHOLE)
        for call in self.calls():
            self.refused(TooMany("edges", 60), call, MANY_EDGES, claim)
            self.refused(TooMany("pairs", 2000), call, MANY_PAIRS, claim)
            self.refused(NoFlood(1), call, RING, claim)
            self.refused(NoFlood(3), call, RING, NoneLeft(1) & ~(Held(3, WHOLE) | claim))

    def test_edges_of_program_and_claim(self):
        full = Program(*[Fill(Box(4 * k + 1, 4 * k + 3, 0, 1), 1) for k in range(14)], Fill(Box(0, 70, 0, 1), 2),
                       Flip("across"))
        self.assertEqual(len(edges("across", full)), 60)
        claim = ColourAt(0, 0, 2)
        self.assertEqual(claim.holds(full, 99, 99), False)
        for call in self.calls():
            self.refused(TooMany("edges", 60), call, full, Covered(Box(80, 81, 0, 1), 0))


class Quick(Case):
    def test_many_pairs(self):
        program = Program(*[Fill(Box(3 * k + 1, from_right(2 * k + 2), 2 * k + 1, from_right(k + 1)), k % 4 + 1)
                            for k in range(9)],
                          Again(9, Swap(1, 2), Flood(0, 0, 5), Flood(from_right(1), 0, 6), Flip("across")))
        many = len(list(pairs(program, NoneLeft(9))))
        self.assertGreater(many, 1400)
        begun = time.process_time()
        self.assertTrue(judge(program, Both(NoneLeft(9), Held(0, WHOLE))))
        self.assertEqual(list(failing(program, NoneLeft(9))), [])
        self.assertLess(time.process_time() - begun, 20)

    def test_many_edges(self):
        fills = [Fill(Box(5 * k + 1, 5 * k + 3, 0, from_right()), k % 5) for k in range(13)]
        program = Program(*fills, Copy(Box(0, 2, 0, 1), 100, 0), Swap(1, 2), Frame(Box(0, 1, 0, 1), 3, 4))
        self.assertEqual([len(edges(axis, program)) for axis in ("across", "down")], [60, 5])
        self.assertGreater(len(list(pairs(program))), 400)
        begun = time.process_time()
        self.assertTrue(judge(program, NoneLeft(9)))
        self.assertEqual(list(failing(program, ~NoneLeft(3))), [])
        self.assertLess(time.process_time() - begun, 20)

    def test_some_five_hundred_pairs(self):
        begun = time.process_time()
        for a, k, many, wrong in ((10 ** 11 + 8, 10 ** 11 + 11, 527, 487), (6, 9, 442, 402)):
            box = Box(a, from_right(a), a, from_right(a))
            program = Program(Frame(box, 1), Fill(Box(k, k + 3, a, a + 1), 0),
                              Flood(from_middle(), from_middle(), 2))
            claim = Held(0, box)
            every, found = list(pairs(program, claim)), list(failing(program, claim))
            self.assertEqual((len(every), len(found)), (many, wrong))
            self.assertEqual([pair for pair in every if pair in found], found)
            self.assertIsNone(safe_from(program, claim))
            inner = 2 * a + 1, 2 * a + 2
            sizes = [*range(1, 15), a - 1, a, a + 1, 2 * a - 1, 2 * a, *inner, 2 * a + 3, 2 * a + 4, 3 * a, 10 ** 30]
            for width in sizes:
                for height in sizes:
                    fails = [pair for pair in found if width in pair[0] and height in pair[1]]
                    self.assertEqual(len(fails), 0 if claim.holds(program, width, height) else 1, (width, height))
                    if width in inner and height in inner:
                        self.assertEqual(fails, [])
        self.assertLess(time.process_time() - begun, 10)
