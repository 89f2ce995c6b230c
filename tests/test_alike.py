"""Programs that are alike, or one within another [13]; deeds that are needless, or exchangeable."""

import random
import time

from heldfloods.alike import alike, commute, exchangeable, needless, parting, settled, trimmed, within
from heldfloods.boxes import Box
from heldfloods.classes import classes, pairs
from heldfloods.deeds import Again, Copy, Fill, Flip, Flood, Frame, Grow, Swap, When
from heldfloods.edges import edges
from heldfloods.errors import BadProgram, NoDeed, TooMany
from heldfloods.judge import No, Yes
from heldfloods.places import from_middle, from_right
from heldfloods.programs import Program
from tests.helpers import Case, is_whole, no_programs, others
from tests.naive import Maker, canvases, paint

WHOLE = Box.whole()
RING = Program(Frame(WHOLE, 1), Flood(from_middle(), from_middle(), 2))
MANY_EDGES = Program(Again(9, Grow(1)), Again(9, Grow(1)))
MANY_PAIRS = Program(*[Fill(Box(4 * k, 4 * k + 2, 4 * k, 4 * k + 2), 1) for k in range(1, 16)])
SMALL = canvases(6, 5)


def key(size):
    return size[0] + size[1], size[0]


def some_pairs(seed, many):
    """Two programs each, often nearly the same one, that are not refused."""
    source = random.Random(seed)
    maker, found = Maker(source), []
    while len(found) < many:
        one = maker.program()
        other = source.choice([one.without(source.randrange(len(one))), one.exchanged(source.randrange(len(one) - 1)),
                               maker.program(), one + maker.deed(2)])
        try:
            list(pairs(one + other, other + one, one, other))
        except TooMany:
            continue
        found.append((one, other))
    return found


def parted(one, other, size):
    """The pixels with two colours on a canvas, in order."""
    first, second = paint(one, *size), paint(other, *size)
    return [(x, y) for y in range(size[1]) for x in range(size[0]) if first[y][x] != second[y][x]]


def lost(one, other, size):
    """The pixels of one that are not 0 and have another colour in the other one, in order."""
    first = paint(one, *size)
    return [(x, y) for x, y in parted(one, other, size) if first[y][x] != "0"]


class Verdicts(Case):
    def look(self, verdict, one, other, wrong):
        """That a verdict is right beside what is wrong on each small canvas."""
        fails = {size: found for size in SMALL for found in [wrong(one, other, size)] if found}
        if verdict:
            self.assertIs(type(verdict), Yes)
            self.assertEqual(fails, {})
            for axis, found in (("across", verdict.widths), ("down", verdict.heights)):
                self.same(found, list(classes(edges(axis, one, other))))
            return
        self.assertIs(type(verdict), No)
        least = verdict.width, verdict.height
        if least in SMALL or fails and key(min(fails, key=key)) < key(least):
            self.assertEqual(least, min(fails, key=key))
        self.assertEqual(wrong(one, other, least)[0], verdict.pixel)
        self.same(verdict.paper, ("no", *least))

    def test_alike(self):
        told = []
        for one, other in some_pairs(81, 70):
            verdict = alike(one, other)
            self.look(verdict, one, other, parted)
            told.append(bool(verdict))
            self.same(alike(other, one), verdict)
        self.assertGreater(min(told.count(True), told.count(False)), 10)

    def test_within(self):
        told = []
        for one, other in some_pairs(82, 50):
            self.look(within(one, other), one, other, lost)
            self.look(within(other, one), other, one, lost)
            told.append(bool(within(one, other)))
            self.assertEqual(bool(within(one, other)) and bool(within(other, one)), bool(alike(one, other)))
        self.assertGreater(min(told.count(True), told.count(False)), 10)

    def test_parting(self):
        for one, other in some_pairs(83, 40):
            found = list(parting(one, other))
            for size in SMALL:
                self.same(any(size[0] in wide and size[1] in high for wide, high in found),
                          bool(parted(one, other, size)))
            self.assertEqual([pair for pair in pairs(one, other) if pair in found], found)
        walk = parting(one=RING, other=Program())
        self.assertEqual([str(size) for size in next(walk)], ["1", "1"])

    def test_least_by_sum_and_then_by_width(self):
        dots = [Fill(Box(2, 3, 0, 1), 1), Fill(Box(1, 2, 1, 2), 1), Fill(Box(0, 1, 2, 3), 1)]
        self.assertEqual(alike(Program(*dots), Program()).paper, ("no", 1, 3))
        self.assertEqual(within(Program(*dots[:2]), Program()).paper, ("no", 2, 2))
        self.assertEqual(alike(Program(), Program(dots[0])).paper, ("no", 3, 1))
        self.assertTrue(within(Program(), Program(*dots)))

    def test_first_pixels(self):
        one = Program(Fill(Box(1, 3, 0, 1), 1), Fill(Box(0, 1, 1, 2), 2))
        other = Program(Fill(Box(2, 3, 0, 1), 1), Fill(Box(0, 1, 1, 2), 3))
        self.assertEqual([(verdict.paper, verdict.pixel) for verdict in (
            alike(one, other), within(one, other), within(other, one))],
            [(("no", 1, 2), (0, 1)), (("no", 1, 2), (0, 1)), (("no", 1, 2), (0, 1))])
        later = Program(Fill(Box(1, 3, 0, 1), 1))
        self.assertEqual((alike(later, other.without(1)).pixel, within(later, other.without(1)).pixel),
                         ((1, 0), (1, 0)))
        self.assertTrue(within(other.without(1), later))

    def test_facts(self):
        for one, other in some_pairs(84, 25):
            if alike(one, other):
                for deed in (Grow(1), Flip("down"), Flood(0, 0, 4), Frame(WHOLE, 3)):
                    self.assertTrue(alike(one + deed, other + deed))


class Needless(Case):
    def test_beside_alike(self):
        seen = 0
        for program, _ in some_pairs(85, 50):
            found = needless(program)
            self.same(found, tuple(k for k in range(len(program)) if alike(program, program.without(k))))
            seen += len(found)
        self.assertGreater(seen, 25)

    def test_trimmed(self):
        for program, _ in some_pairs(86, 40):
            wanted = program
            while needless(wanted):
                wanted = wanted.without(needless(wanted)[-1])
            found = trimmed(program)
            self.same(found, wanted)
            self.assertTrue(alike(found, program))

    def test_the_last_one_first(self):
        blue = Fill(WHOLE, 1)
        program = Program(blue, Fill(WHOLE, 2), blue)
        self.assertEqual(needless(program), (0, 1))
        # Without the deed 1 the last one is needless, too, and goes ahead of the first one.
        self.assertEqual(trimmed(program), Program(blue))
        marked = Program(Fill(Box(0, 1, 0, 1), 1), Fill(Box(0, 1, 0, 1), 1), Fill(Box(0, 1, 0, 1), 1))
        self.assertEqual(needless(marked), (0, 1, 2))
        self.assertEqual(len(trimmed(marked)), 1)
        self.assertEqual(trimmed(Program(Flood(0, 0, 3), Fill(WHOLE, 3))), Program(Flood(0, 0, 3)))

    def test_without_deeds(self):
        self.assertEqual((needless(Program()), trimmed(Program())), ((), Program()))
        self.assertEqual((needless(Program(Swap(1, 2), Fill(Box(2, 1, 0, 1), 3))), trimmed(Program(Again(0, Grow(1))))),
                         ((0, 1), Program()))
        self.assertEqual(needless(program=RING), ())
        self.assertEqual(trimmed(program=RING), RING)

    def test_far_out(self):
        # The last deed paints only where a canvas is wide.
        program = Program(Fill(WHOLE, 1), Fill(Box(10 ** 6, 10 ** 6 + 1, 0, 1), 2))
        self.assertEqual(needless(program), ())
        self.assertEqual(alike(program, program.without(1)).paper, ("no", 10 ** 6 + 1, 1))


class Orders(Case):
    def test_exchangeable(self):
        for one, _ in some_pairs(87, 20):
            for k in range(len(one) - 1):
                self.same(exchangeable(one, k), alike(one, one.exchanged(k)))
        program = Program(Fill(Box(0, 1, 0, 1), 1), Fill(Box(2, 3, 0, 1), 2), Fill(Box(0, 3, 0, 1), 3))
        self.assertEqual([bool(exchangeable(program=program, k=k)) for k in (0, 1)], [True, False])
        self.assertEqual(exchangeable(program, 1).paper, ("no", 3, 1))

    def test_commute(self):
        for one, other in some_pairs(88, 20):
            self.same(commute(one, other), alike(one + other, other + one))
        self.assertTrue(commute(one=Program(Fill(Box(0, 1, 0, 1), 1)), other=Program(Fill(Box(1, 2, 0, 1), 2))))
        self.assertFalse(commute(Program(Fill(Box(0, 2, 0, 1), 1)), Program(Fill(Box(1, 2, 0, 1), 2))))

    def test_settled(self):
        for one, _ in some_pairs(89, 20):
            try:
                wanted = alike(one, one * 2)
            except TooMany:
                continue
            self.same(settled(one), wanted)
        self.assertTrue(settled(program=Program(Fill(WHOLE, 1))))
        self.assertFalse(settled(Program(Flip("across"), Fill(Box(0, 1, 0, 1), 1))))
        self.assertTrue(settled(Program(Flip("across"))))
        self.assertTrue(settled(Program(When(0, 0, 0, [Fill(WHOLE, 1)]))))


class Refused(Case):
    def test_programs(self):
        two = (alike, within, commute, lambda one, other: next(parting(one, other)))
        one = (needless, trimmed, settled, lambda program: exchangeable(program, None))
        for value in no_programs():
            for call in two:
                self.refused(BadProgram(0), call, value, value)
                self.refused(BadProgram(0), call, value, RING)
                self.refused(BadProgram(1), call, MANY_EDGES, value)
            for call in one:
                self.refused(BadProgram(0), call, value)

    def test_exchanged(self):
        for value in others(lambda value: is_whole(value) and value == 0):
            self.refused(NoDeed(value), exchangeable, RING, value)
        self.refused(NoDeed(1), exchangeable, MANY_EDGES, 1)
        self.refused(TooMany("edges", 60), exchangeable, MANY_EDGES, 0)

    def test_sums_and_products(self):
        long = Program(*[Swap(1, 2)] * 9, *MANY_EDGES.deeds[:1])
        self.refused(TooMany("said", 16), commute, long, long)
        self.refused(TooMany("said", 16), settled, long)
        often = Program(Again(9, Grow(1), Grow(2), Swap(1, 3)))
        self.refused(TooMany("done", 48), commute, often, often)
        self.refused(TooMany("done", 48), settled, often)
        self.refused(TooMany("edges", 60), commute, Program(Again(9, Grow(1))), Program(Again(9, Grow(2))))

    def test_edges_and_pairs(self):
        half = Program(Again(9, Grow(1)))
        self.assertEqual(len(edges("across", half)), 38)
        other = Program(*[Fill(Box(4 * k + 1, 4 * k + 3, 0, 1), 1) for k in range(14)])
        for call in (alike, within, lambda one, other: next(parting(one, other))):
            self.refused(TooMany("edges", 60), call, MANY_EDGES, RING)
            self.refused(TooMany("edges", 60), call, half, other)
            self.refused(TooMany("pairs", 2000), call, RING, MANY_PAIRS)
        for call in (needless, trimmed, lambda program: exchangeable(program, 0)):
            self.refused(TooMany("edges", 60), call, MANY_EDGES)
            self.refused(TooMany("pairs", 2000), call, MANY_PAIRS)


class Quick(Case):
    def test_many_pairs(self):
        program = Program(*[Fill(Box(3 * k + 1, from_right(2 * k + 2), 2 * k + 1, from_right(k + 1)), k % 4 + 1)
                            for k in range(9)],
                          Again(6, Swap(1, 2), Flood(0, 0, 5), Flood(from_right(1), 0, 6), Flip("across")))
        self.assertGreater(len(list(pairs(program))), 1400)
        begun = time.process_time()
        self.assertTrue(alike(program, program))
        self.assertTrue(within(program, program))
        self.assertEqual(needless(program + Swap(8, 9)), (10,))
        self.assertEqual(len(trimmed(program + Swap(8, 9))), 10)
        self.assertLess(time.process_time() - begun, 30)

    def test_copies(self):
        tiles = Program(Fill(Box(0, 3, 0, 3), 1), Copy(Box(0, 3, 0, 3), 3, 0), Copy(Box(0, 6, 0, 3), 6, 0),
                        Copy(Box(0, from_right(), 0, 3), 0, 3))
        bar = Program(Fill(Box(0, 12, 0, 6), 1))
        self.assertTrue(alike(tiles, bar))
        self.assertTrue(within(tiles.without(3), bar))
        self.assertEqual(alike(tiles.without(3), bar).paper, ("no", 1, 4))
