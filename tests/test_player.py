"""Players [3], [6], [7]: what is done, and seen, in the order of time."""

import random
import time

from heldfloods.boxes import Box
from heldfloods.canvases import Canvas
from heldfloods.deeds import Again, Copy, Fill, Flip, Flood, Frame, Grow, Swap, When
from heldfloods.errors import BadProgram, BadSize, NoFlood
from heldfloods.pictures import Picture
from heldfloods.places import from_left, from_middle, from_right
from heldfloods.player import frames, play, regions_at
from heldfloods.programs import Program
from tests.helpers import VALUES, Case, is_whole, no_programs, no_sizes, others
from tests.naive import Maker, flood_regions, history, in_order, paint, rows

WHOLE = Box.whole()
RING = Program(Frame(WHOLE, 1), Flood(from_middle(), from_middle(), 2))


def some_programs(seed, many):
    maker = Maker(random.Random(seed))
    return [maker.program() for _ in range(many)]


class Plays(Case):
    def test_by_the_definitions(self):
        for program in some_programs(21, 120):
            for width, height in ((1, 1), (2, 3), (5, 4), (6, 7)):
                canvas = Canvas(width, height)
                steps = history(program, width, height)
                self.same(play(program, canvas), len(steps))
                self.assertEqual(canvas.shown.rows, paint(program, width, height))

    def test_on_a_canvas_as_it_is(self):
        canvas = Canvas(3, 2)
        canvas.show(Picture(["120", "012"]))
        self.assertEqual(play(Program(Flip("across"), Swap(0, 5)), canvas), 2)
        self.assertEqual(canvas.shown.rows, ("521", "215"))
        self.assertEqual(play(program=Program(), canvas=canvas), 0)
        self.assertEqual(canvas.shown.rows, ("521", "215"))

    def test_how_many_are_done(self):
        canvas = Canvas(2, 2)
        for deeds, many in (
                ((), 0), ((Grow(1),), 1), ((Again(3, Grow(1), Flip("down")),), 6), ((Again(0, Grow(1)),), 0),
                ((Again(2, Again(3, Grow(1)), Grow(2)),), 8), ((When(0, 0, 7, [Grow(1)]),), 0),
                ((When(0, 0, 0, [Grow(1), Grow(1)], [Grow(1)]),), 2), ((When(5, 0, 0, [], [Grow(1)]),), 1),
                ((Again(4, When(0, 0, 0, [Swap(0, 1)], [Swap(0, 1), Grow(0)])),), 6), ((Again(9),), 0),
                ((Flood(7, 7, 1),), 1)):
            self.same(play(Program(*deeds), canvas), many)
            canvas.show(Picture.plain(2, 2))

    def test_a_block_is_chosen_when_its_time_has_come(self):
        # The first round paints what the second one asks for.
        canvas = Canvas(1, 1)
        program = Program(Again(3, When(0, 0, 0, [Fill(WHOLE, 1)], [When(0, 0, 1, [Fill(WHOLE, 2)], [Swap(2, 3)])])))
        self.assertEqual(play(program, canvas), 3)
        self.assertEqual(canvas.shown.rows, ("3",))

    def test_no_programs(self):
        canvas = Canvas(2, 2)
        for value in no_programs():
            self.refused(BadProgram(0), play, value, canvas)
        self.assertEqual(canvas, Canvas(2, 2))


class Frames(Case):
    def test_by_the_definitions(self):
        for program in some_programs(22, 80):
            for width, height in ((1, 2), (4, 3), (5, 5)):
                wanted = [("0" * width,) * height]
                wanted.extend(rows(step[3], width, height) for step in history(program, width, height))
                found = list(frames(program, width, height))
                self.assertEqual([one.rows for one in found], wanted)
                self.assertTrue(all(type(one) is Picture for one in found))

    def test_one_at_a_time(self):
        walk = frames(program=RING, width=4, height=3)
        self.assertEqual(next(walk).rows, ("0000",) * 3)
        self.assertEqual(next(walk).rows, ("1111", "1001", "1111"))
        self.assertEqual(next(walk).rows, ("1111", "1221", "1111"))
        with self.assertRaises(StopIteration):
            next(walk)

    def test_without_deeds_that_are_done(self):
        for program in (Program(), Program(Again(0, Grow(1))), Program(When(0, 0, 1, [Grow(1)]))):
            self.assertEqual([one.rows for one in frames(program, 2, 1)], [("00",)])

    def test_a_deed_that_changes_nothing_has_a_frame(self):
        program = Program(Flood(9, 0, 1), Flood(0, -1, 1), Fill(Box(3, 1, 0, 1), 2))
        self.assertEqual([one.rows for one in frames(program, 2, 1)], [("00",)] * 4)

    def test_refused(self):
        for value in no_programs():
            self.refused(BadProgram(0), lambda: next(frames(value, None, None)))
        for value in no_sizes(200):
            self.refused(BadSize("width"), lambda: next(frames(RING, value, None)))
            self.refused(BadSize("height"), lambda: next(frames(RING, 200, value)))

    def test_great_canvases(self):
        program = Program(Frame(WHOLE, 1), Again(9, Flood(100, 100, 2), Swap(2, 3), Grow(1), Flip("down")))
        begun = time.process_time()
        self.assertEqual(len(list(frames(program, 200, 200))), 38)
        self.assertLess(time.process_time() - begun, 10)


class RegionsAt(Case):
    def test_by_the_definitions(self):
        for program in some_programs(23, 250):
            for width, height in ((1, 1), (3, 2), (6, 5)):
                for index in range(program.floods):
                    found = regions_at(program, width, height, index)
                    self.same(found, [in_order(one) for one in flood_regions(program, width, height, index)])

    def test_numbers_go_by_what_is_said(self):
        flood = Flood(0, 0, 1)
        program = Program(
            flood, When(0, 0, 1, [Again(2, Flood(1, 0, 2))], [flood, Flood(2, 0, 3)]), Again(0, flood), flood)
        self.assertEqual(program.floods, 6)
        wide = ((0, 0), (1, 0), (2, 0))
        self.assertEqual([regions_at(program, 3, 1, index) for index in range(6)],
                         [[wide], [wide, wide], [], [], [], [wide]])
        other = Program(Fill(Box(0, 1, 0, 1), 5), *program.deeds[1:])
        self.assertEqual([regions_at(other, 3, 1, index) for index in range(5)],
                         [[], [((0, 0),)], [((1, 0), (2, 0))], [], [((0, 0),)]])

    def test_once_for_each_time_at_a_pixel(self):
        program = Program(Again(3, Fill(Box(0, from_left(1), 0, 1), 1), Flip("across"), Flood(0, 0, 2)))
        self.assertEqual([len(one) for one in regions_at(program, 3, 2, 0)], [5, 1, 1])
        outside = Program(Flood(-1, 0, 1), Flood(0, from_right(), 1), Again(4, Flood(from_middle(1), 0, 1)))
        self.assertEqual([regions_at(outside, 1, 1, index) for index in range(3)], [[], [], []])
        self.assertEqual(regions_at(outside, 2, 1, 2), [])
        self.assertEqual(regions_at(outside, 3, 1, 2), [((0, 0), (1, 0), (2, 0))] * 4)

    def test_of_one_colour(self):
        # A flood with the colour that the region has already changes nothing, but has a region.
        self.assertEqual(regions_at(Program(Flood(0, 0, 0)), 2, 1, 0), [((0, 0), (1, 0))])

    def test_a_program_that_paints_later(self):
        program = Program(Flood(1, 1, 4), Frame(WHOLE, 1), Copy(Box(0, 1, 0, 1), 1, 1))
        self.assertEqual(len(regions_at(program, 3, 3, 0)[0]), 9)

    def test_refused(self):
        for value in no_programs():
            self.refused(BadProgram(0), regions_at, value, None, None, None)
        for value in no_sizes(200):
            self.refused(BadSize("width"), regions_at, RING, value, None, None)
            self.refused(BadSize("height"), regions_at, RING, 1, value, None)
        for value in others(lambda value: is_whole(value) and value == 0):
            self.refused(NoFlood(value), regions_at, RING, 1, 1, value)
        for value in VALUES:
            self.refused(NoFlood(value), regions_at, Program(), 1, 1, value)
