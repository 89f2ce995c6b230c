"""Leaks [14] and reaches: where floods leak out of a box, by a shortest way, and how far they come."""

import random
import time

from heldfloods.boxes import Box
from heldfloods.claims import Held
from heldfloods.classes import pairs
from heldfloods.deeds import Again, Copy, Fill, Flip, Flood, Frame, Grow, When
from heldfloods.edges import edges
from heldfloods.errors import BadClaim, BadPlace, BadProgram, Fails, Gap, NoFlood, TooMany
from heldfloods.floods import Leak, leak, need_held, reach, reaches
from heldfloods.judge import judge
from heldfloods.places import from_middle, from_right
from heldfloods.player import regions_at
from heldfloods.programs import Program
from tests.helpers import VALUES, Case, no_boxes, no_great_sizes, no_programs, others, is_whole
from tests.naive import Maker, at, canvases, flood_regions, inside, outcome, sides

WHOLE = Box.whole()
INSIDE = Box.inside(1)
MIDDLE = from_middle()
RING = Program(Frame(WHOLE, 1), Flood(MIDDLE, MIDDLE, 2))
SHUT = Program(Fill(Box(3, 4, 0, from_right()), 1), Fill(Box(3, 4, 1, 2), 0), Flood(0, 0, 2))
MANY_EDGES = Program(Flood(0, 0, 1), Again(9, Grow(1)), Again(9, Grow(1)))
MANY_PAIRS = Program(Flood(0, 0, 1), *[Fill(Box(4 * k, 4 * k + 2, 4 * k, 4 * k + 2), 1) for k in range(1, 16)])
SMALL = canvases(6, 5)


def key(size):
    return size[0] + size[1], size[0]


def some_programs(seed, many):
    """Programs with floods, some of them in blocks, or said twice, and the number of one of their floods."""
    source = random.Random(seed)
    maker, found = Maker(source), []
    while len(found) < many:
        flood = maker.flood()
        ending = source.choice([
            flood, Again(2, flood, Flip("down"), flood), Again(2, Again(1, maker.deed(1)), flood),
            When(maker.place(), maker.place(), maker.colour(), [flood], [maker.flood(), flood]),
        ])
        program = maker.program() + ending
        index = source.randrange(program.floods)
        box = room_for([deed for deed in program.each() if isinstance(deed, Flood)][index], maker, source)
        if not is_refused(program, Held(index, box)):
            found.append((program, index, box))
    return found


def is_refused(*things):
    """Whether there are too many edges or pairs."""
    try:
        return not list(pairs(*things))
    except TooMany:
        return True


def room_for(flood, maker, source):
    """Some box; most of them have the pixel of the flood."""
    near = Box(flood.x - 1, flood.x + 2, flood.y - 1, flood.y + 2)
    return source.choice([maker.box(), near, Box(near.x0, near.x1, 0, from_right()), Box(-9, near.x1, -9, 99), WHOLE])


def steps_out(region, start, box):
    """How many pixels a shortest way in a region has to a pixel outside of a box."""
    front, seen, many = [start], {start}, 1
    while not any(not inside(pixel, box) for pixel in front):
        front = [near for x, y in front for near in ((x + 1, y), (x - 1, y), (x, y + 1), (x, y - 1))
                 if near in region and near not in seen and not seen.add(near)]
        many += 1
    return many


class Leaks(Case):
    def look_at_way(self, program, index, box, found):
        width, height = found.width, found.height
        room = sides(box, width, height)
        flood = [deed for deed in program.each() if isinstance(deed, Flood)][index]
        start = at(flood.x, width), at(flood.y, height)
        wide = [region for region in flood_regions(program, width, height, index)
                if not all(inside(pixel, room) for pixel in region)][0]
        self.assertIs(type(found.path), tuple)
        self.assertEqual(found.path[0], start)
        self.assertTrue(all(pixel in wide for pixel in found.path))
        self.assertEqual([inside(pixel, room) for pixel in found.path], [True] * (len(found) - 1) + [False])
        for (x, y), (to_x, to_y) in zip(found.path, found.path[1:]):
            self.assertEqual(abs(x - to_x) + abs(y - to_y), 1)
        self.assertEqual((len(found), len(found.path)), (steps_out(wide, start, room),) * 2)
        self.same(found.gap, found.path[-1])

    def test_beside_all_small_canvases(self):
        seen = []
        for program, index, box in some_programs(51, 220):
            claim = Held(index, box)
            fails = [size for size in SMALL if not outcome(claim, program, *size)[0]]
            found = leak(program, index, box)
            seen.append(None if found is None else len(found))
            if found is None:
                self.assertEqual(fails, [])
                self.assertIsNone(need_held(program, index, box))
                continue
            size = found.width, found.height
            self.assertEqual(judge(program, claim).paper, ("no", *size))
            if fails and key(fails[0]) < key(size) or size in SMALL:
                self.assertEqual(size, fails[0], (str(program), index, str(box)))
            self.look_at_way(program, index, box, found)
            with self.assertRaises(Fails) as caught:
                need_held(program=program, index=index, box=box)
            self.assertEqual(vars(caught.exception), {"width": size[0], "height": size[1]})
            self.assertIs(type(caught.exception.__cause__), Gap)
            self.assertEqual(vars(caught.exception.__cause__), {"x": found.gap[0], "y": found.gap[1]})
        self.assertGreater(seen.count(None), 20)
        self.assertGreater(seen.count(1), 20)
        self.assertGreater(len([one for one in seen if one is not None and one > 1]), 20)

    def test_long_ways(self):
        far = [(40, 7), (13, 60), (99, 100), (198, 199)]
        for wide, high in far:
            program = Program(Frame(WHOLE, 1), Fill(Box(wide, wide + 1, high, high + 1), 0),
                              Fill(Box(2, wide - 1, 5, 6), 3), Flood(2, 2, 2))
            room = Box(1, wide, 1, high)
            found = leak(program, 0, room)
            self.look_at_way(program, 0, room, found)

    def test_a_winding(self):
        bars = [Fill(Box(4 * k + 2, 4 * k + 3, 0, from_right(1)), 1) for k in range(6)]
        bars += [Fill(Box(4 * k + 4, 4 * k + 5, 1, from_right()), 1) for k in range(6)]
        program = Program(*bars, Flood(0, 0, 2))
        room = Box(0, 26, 0, from_right())
        found = leak(program, 0, room)
        self.look_at_way(program, 0, room, found)
        high = Program(*bars, When(0, 60, 0, [Flood(0, 0, 2)]))
        found = leak(high, 0, room)
        self.assertEqual((found.width, found.height), (27, 61))
        self.assertGreater(len(found), 26 * 15)
        self.look_at_way(high, 0, room, found)

    def test_first_region_that_does_not_lie_in_the_box(self):
        # First the flood is held by bars, then it leaks to the right alone, and then to both sides.
        bars = [Fill(Box(2, 3, 0, from_right()), 1), Fill(Box(7, 8, 0, from_right()), 1)]
        turn = When(7, 0, 1, [Fill(Box(7, 8, 0, from_right()), 0)], [Fill(Box(2, 3, 0, from_right()), 0)])
        program = Program(*bars, When(8, 0, 0, [Again(3, Flood(4, 0, 0), turn)]))
        self.assertEqual([len(region) for region in regions_at(program, 9, 1, 0)], [4, 6, 9])
        room = Box(3, 7, 0, from_right())
        found = leak(program, 0, room)
        self.assertEqual((found.width, found.height, found.path), (9, 1, ((4, 0), (5, 0), (6, 0), (7, 0))))
        self.look_at_way(program, 0, room, found)

    def test_outside_at_once(self):
        found = leak(RING, 0, Box(5, 5, 0, from_right()))
        self.assertEqual((found.width, found.height, found.path, found.gap, len(found)), (1, 1, ((0, 0),), (0, 0), 1))
        found = leak(Program(Flood(7, 2, 3)), 0, Box(0, 7, 0, from_right()))
        self.assertEqual((found.width, found.height, found.path), (8, 3, ((7, 2),)))

    def test_a_flood_said_twice(self):
        flood = Flood(0, 0, 2)
        program = Program(flood, Fill(Box(0, 1, 0, 1), 3), flood)
        room = Box(0, 1, 0, 1)
        self.assertEqual(leak(program, 0, room).path, ((0, 0), (0, 1)))
        self.assertIsNone(leak(program, 1, room))

    def test_two_hundred(self):
        for side in (199, 200):
            program = Program(Flood(side - 1, 0, 2))
            found = leak(program, 0, Box(0, side - 1, 0, from_right()))
            self.assertEqual((found.width, found.height, found.path), (side, 1, ((side - 1, 0),)))
            program = Program(Flood(0, side - 1, 2))
            self.assertEqual(leak(program, 0, Box(0, 1, 0, side - 1)).height, side)
        for index, box in ((0, Box(0, 200, 0, from_right())), (0, Box(0, 10 ** 12, 0, from_right()))):
            self.refused(TooMany("pixels", 200), leak, Program(Flood(0, 0, 2)), index, box)
            self.refused(TooMany("pixels", 200), need_held, Program(Flood(0, 0, 2)), index, box)
        self.refused(TooMany("pixels", 200), leak, Program(Flood(0, 200, 2)), 0, Box(0, 1, 0, 200))

    def test_attributes_and_equality(self):
        found = leak(program=SHUT, index=0, box=Box(0, 3, 0, from_right()))
        self.assertIsInstance(vars(Leak)["gap"], property)
        self.assertEqual((found.width, found.height, found.gap, len(found), bool(found)), (4, 2, (3, 1), 5, True))
        self.assertTrue(found == leak(SHUT, 0, Box(0, 3, 0, from_right())) == Leak(4, 2, found.path))
        for other in (Leak(5, 2, found.path), Leak(4, 3, found.path), Leak(4, 2, found.path[:-1]),
                      Leak(4, 2, list(found.path)), *VALUES):
            self.same(found == other, False)

    def test_mirrored(self):
        for program, index, box in some_programs(52, 80):
            found, turned = leak(program, index, box), leak(~program, index, ~box)
            self.same(found is None, turned is None)
            if found is not None:
                self.assertEqual((found.width, found.height, len(found)), (turned.width, turned.height, len(turned)))


class Reaches(Case):
    def look_at(self, program, index, width, height):
        pixels = [pixel for region in flood_regions(program, width, height, index) for pixel in region]
        if not pixels:
            return None
        across, down = [x for x, _ in pixels], [y for _, y in pixels]
        return min(across), max(across) + 1, min(down), max(down) + 1

    def test_beside_pixels(self):
        none = 0
        for program, index, _ in some_programs(53, 120):
            for width, height in SMALL:
                wanted = self.look_at(program, index, width, height)
                none += wanted is None
                self.same(reach(program, index, width, height), wanted)
        self.assertGreater(none, 100)

    def test_by_pairs(self):
        for program, index, _ in some_programs(54, 60):
            found = list(reaches(program, index))
            self.assertEqual([(wide, high) for wide, high, _ in found], list(pairs(program)))
            listed = edges("across", program), edges("down", program)
            for wide, high, box in found:
                for width in (wide.low, wide.low + 2):
                    for height in (high.low, high.low + 4):
                        if width in wide and height in high:
                            told = None if box is None else box(width, height)
                            self.same(told, reach(program, index, width, height))
                if box is not None:
                    for places, size, rows in ((box.x0, wide.low, listed[0]), (box.x1, wide.low, listed[0]),
                                               (box.y0, high.low, listed[1]), (box.y1, high.low, listed[1])):
                        self.assertEqual(places, [one for one in rows if one(size) == places(size)][0])

    def test_far_out(self):
        great = 10 ** 40
        self.assertEqual(reach(SHUT, 0, great, 2), (0, great, 0, 2))
        self.assertEqual(reach(RING, 0, great, great - 1), (1, great - 1, 1, great - 2))
        self.assertEqual(reach(program=RING, index=0, width=great, height=2), (0, great, 0, 2))
        self.assertIsNone(reach(Program(Flood(5, 5, 1)), 0, great, 5))
        far = 10 ** 12 - 1
        program = Program(Fill(Box(far, far + 1, 0, from_right()), 1), Flood(0, 0, 2))
        self.assertEqual([reach(program, 0, width, 7) for width in (far, far + 1, great)], [(0, far, 0, 7)] * 3)

    def test_mirrored(self):
        for program, index, _ in some_programs(55, 60):
            for width, height in ((5, 4), (6, 3), (1, 1), (10 ** 20, 7)):
                found, turned = reach(program, index, width, height), reach(~program, index, width, height)
                if found is not None:
                    found = (width - found[1], width - found[0], *found[2:])
                self.assertEqual(found, turned)

    def test_no_greater_behind_a_fill_beside_it(self):
        source = random.Random(56)
        for _ in range(60):
            maker = Maker(source)
            flood, program = maker.flood(), maker.program()
            for x, y in ((1, 0), (-1, 0), (0, 1), (0, -1)):
                box = Box(flood.x + x, flood.x + x + 1, flood.y + y, flood.y + y + 1)
                less = program + Fill(box, 9) + flood
                if is_refused(less):
                    continue
                for size in SMALL[::3] + [(9, 8)]:
                    number = program.floods
                    small, great = reach(less, number, *size), reach(program + flood, number, *size)
                    self.assertEqual(small is None, great is None)
                    if small is not None:
                        self.assertTrue(small[0] >= great[0] and small[1] <= great[1])
                        self.assertTrue(small[2] >= great[2] and small[3] <= great[3])


class Refused(Case):
    def test_programs_floods_and_boxes(self):
        for call in (leak, need_held):
            for value in no_programs():
                self.refused(BadProgram(0), call, value, None, None)
            for value in others(lambda value: is_whole(value) and value == 0):
                self.refused(NoFlood(value), call, MANY_EDGES, value, None)
            for value in no_boxes():
                self.refused(BadClaim("box"), call, MANY_EDGES, 0, value)
            self.refused(TooMany("edges", 60), call, MANY_EDGES, 0, INSIDE)
            self.refused(TooMany("pairs", 2000), call, MANY_PAIRS, 0, INSIDE)
            self.refused(NoFlood(0), call, Program(), 0, INSIDE)

    def test_edges_of_the_box_count(self):
        full = Program(*[Fill(Box(4 * k + 1, 4 * k + 3, 0, 1), 1) for k in range(14)], Flood(1, 0, 2),
                       Flip("across"))
        self.assertEqual(len(edges("across", full)), 60)
        self.refused(TooMany("edges", 60), leak, full, 0, Box(80, 81, 0, 1))
        self.assertIsNotNone(leak(full, 0, Box(1, 2, 0, 1)))
        self.assertEqual(len(list(reaches(full, 0))), len(list(pairs(full))))

    def test_reach(self):
        for value in no_programs():
            self.refused(BadProgram(0), reach, value, None, None, None)
            self.refused(BadProgram(0), lambda: next(reaches(value, None)))
        for value in others(lambda value: is_whole(value) and value == 0):
            self.refused(NoFlood(value), reach, RING, value, None, None)
            self.refused(NoFlood(value), lambda: next(reaches(MANY_EDGES, value)))
        for value in no_great_sizes():
            for call, part in ((lambda: reach(MANY_EDGES, 0, value, value), "width"),
                               (lambda: reach(MANY_EDGES, 0, 1, value), "height")):
                with self.assertRaises(ValueError) as caught:
                    call()
                self.assertEqual(vars(caught.exception), {"part": part})
        self.refused(TooMany("edges", 60), reach, MANY_EDGES, 0, 3, 3)

    def test_reaches(self):
        self.refused(TooMany("edges", 60), lambda: next(reaches(MANY_EDGES, 0)))
        self.refused(TooMany("pairs", 2000), lambda: next(reaches(MANY_PAIRS, 0)))

    def test_places_that_are_too_far_out(self):
        far = 10 ** 12
        wide, high = Box(0, far, 0, from_right()), Box(0, from_right(), 0, far)
        across = Program(Fill(wide, 1), Copy(wide, 5, 0), Flood(0, 0, 2))
        self.assertEqual(reach(across, 0, 10 ** 13, 1), (0, far + 5, 0, 1))
        self.refused(BadPlace("x1"), lambda: next(reaches(across, 0)))
        down = Program(Fill(high, 1), Copy(high, 0, 5), Flood(0, 0, 2))
        self.refused(BadPlace("y1"), lambda: next(reaches(down, 0)))
        # What is copied as far is not always in the reach.
        held = Program(Fill(wide, 1), Copy(wide, 5, 0), Fill(Box(7, 8, 0, from_right()), 3), Flood(0, 0, 2))
        self.assertEqual([box.x1(10 ** 13) for _, _, box in reaches(held, 0)][-1], 7)


class Quick(Case):
    def test_many_pairs(self):
        program = Program(*[Fill(Box(3 * k + 1, from_right(2 * k + 2), 2 * k + 1, from_right(k + 1)), k % 4 + 1)
                            for k in range(9)], Again(5, Flood(0, 0, 5), Flood(from_right(1), 0, 6), Flip("across")))
        self.assertGreater(len(list(pairs(program))), 1400)
        begun = time.process_time()
        self.assertIsNone(leak(program, 0, WHOLE))
        self.assertEqual(len(list(reaches(program, 1))), len(list(pairs(program))))
        self.assertLess(time.process_time() - begun, 10)

    def test_great_canvases(self):
        program = Program(Flood(0, 0, 1), Fill(Box(199, 200, 199, 200), 3))
        begun = time.process_time()
        for box in (Box(0, 199, 0, from_right()), Box(0, from_right(), 0, 199)):
            self.assertEqual(len(leak(program, 0, box)), 200)
        wide = Program(When(199, 199, 0, [Flood(0, 0, 1)]))
        self.assertEqual(len(leak(wide, 0, Box(0, from_right(), 0, 199))), 200)
        self.assertLess(time.process_time() - begun, 3)
