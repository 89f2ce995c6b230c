"""Strips [9]: pictures of any size, by cells."""

import random
import time

from heldfloods.boxes import Box
from heldfloods.deeds import Again, Copy, Deed, Fill, Flip, Flood, Frame, Grow, Swap, When
from heldfloods.edges import edges
from heldfloods.errors import BadColour, BadPixel, BadSize, NoFlood, TooMany
from heldfloods.pictures import Picture
from heldfloods.places import from_left, from_middle, from_right
from heldfloods.programs import Program
from heldfloods.strips import Strips
from tests.helpers import VALUES, Case, is_whole, no_colours, no_great_sizes, others
from tests.naive import Maker, at, colour_of, flood_regions, in_order, paint

GREATEST = 10 ** 40
WHOLE = Box.whole()
RING = Program(Frame(WHOLE, 1), Flood(from_middle(), from_middle(), 2))
MANY = Program(Again(9, Grow(1)), Again(9, Grow(1)))


def some_strips(seed, many):
    """Strips of programs on small canvases, with the program and its rows."""
    source = random.Random(seed)
    maker, found = Maker(source), []
    while len(found) < many:
        program, width, height = maker.program() + maker.flood(), source.randint(1, 11), source.randint(1, 9)
        if all(len(edges_or_none(axis, program)) > 0 for axis in ("across", "down")):
            found.append((Strips(program, width, height), program, paint(program, width, height)))
    return found


def edges_or_none(axis, program):
    try:
        return edges(axis, program)
    except TooMany:
        return []


class Small(Case):
    def test_a_deed_that_changes_nothing(self):
        self.assertEqual(Strips(Program(Deed(), Fill(WHOLE, 2), Deed()), 4, 3), Strips(Program(Fill(WHOLE, 2)), 4, 3))

    def test_beside_the_pictures(self):
        for strips, program, rows in some_strips(41, 300):
            width, height = len(rows[0]), len(rows)
            self.assertEqual((strips.width, strips.height), (width, height))
            self.assertEqual(strips.picture(), Picture(rows))
            self.assertEqual(strips.picture(), program(width, height))
            for y in range(height):
                for x in range(width):
                    self.same(strips[x, y], int(rows[y][x]))
            for colour in range(10):
                self.same(strips.area(colour), sum(row.count(str(colour)) for row in rows))
                self.same(colour in strips, strips.area(colour) > 0)

    def test_columns_and_rows(self):
        for strips, program, _ in some_strips(42, 100):
            for axis, size, ends in (("across", strips.width, strips.columns), ("down", strips.height, strips.rows)):
                values = {at(place, size) for place in edges(axis, program)}
                self.same(ends, tuple(sorted(value for value in values if 0 <= value <= size)))

    def test_cells(self):
        for strips, _, rows in some_strips(43, 100):
            across, down = len(strips.columns) - 1, len(strips.rows) - 1
            wanted = [(i, j, int(rows[strips.rows[j]][strips.columns[i]])) for j in range(down) for i in range(across)]
            self.assertEqual(list(strips.cells()), wanted)
            for i, j, colour in strips.cells():
                self.same(strips.colour_at(i, j), colour)
                self.same(strips.colour_at(j=j, i=i), colour)

    def test_regions(self):
        seen = 0
        for strips, program, _ in some_strips(44, 300):
            for index in range(program.floods):
                wanted = flood_regions(program, strips.width, strips.height, index)
                found = strips.regions(index)
                self.assertIs(type(found), list)
                self.assertEqual([self.pixels_of(strips, cells) for cells in found], [in_order(one) for one in wanted])
                for cells in found:
                    self.same(cells, tuple(sorted(cells)))
                    seen += 1
                found.append(())
                self.assertEqual(len(strips.regions(index)), len(wanted))
        self.assertGreater(seen, 100)

    def pixels_of(self, strips, cells):
        return in_order((x, y) for i, j in cells for x in range(strips.columns[i], strips.columns[i + 1])
                        for y in range(strips.rows[j], strips.rows[j + 1]))

    def test_one_pixel(self):
        one = Strips(program=Program(), width=1, height=1)
        self.assertEqual((one.columns, one.rows, list(one.cells()), one[0, 0]), ((0, 1), (0, 1), [(0, 0, 0)], 0))

    def test_properties(self):
        for name in ("width", "height", "columns", "rows"):
            self.assertIsInstance(vars(Strips)[name], property)
            with self.assertRaises(AttributeError):
                setattr(Strips(RING, 3, 3), name, ())
        with self.assertRaises(TypeError):
            list(Strips(RING, 3, 3))


class Great(Case):
    def test_frame(self):
        width, height = 10 ** 35 + 1, 10 ** 39
        strips = Strips(RING, width, height)
        self.same(strips.area(1), 2 * width + 2 * height - 4)
        self.same(strips.area(2), (width - 2) * (height - 2))
        self.assertEqual([strips[0, 5], strips[width - 1, height - 1], strips[width - 2, height - 2]], [1, 1, 2])
        self.assertEqual(strips.columns, (0, 1, width // 2, width // 2 + 1, width - 1, width))
        self.assertEqual(strips.regions(0), [tuple((i, j) for i in (1, 2, 3) for j in (1, 2, 3))])
        self.assertEqual((0 in strips, 1 in strips, 2 in strips), (False, True, True))

    def test_greatest(self):
        strips = Strips(RING, GREATEST, GREATEST)
        self.assertEqual((strips.area(1) + strips.area(2), strips.width), (GREATEST ** 2, GREATEST))
        self.assertEqual(strips[GREATEST - 1, 3], 1)

    def test_pixel_by_pixel(self):
        # Pixels at the edges, beside them and between them, each looked at by itself.
        source = random.Random(45)
        maker, looked = Maker(source), 0
        while looked < 3000:
            deeds = [deed for deed in maker.program().deeds if not isinstance(deed, (Flood, Again, When))]
            program = Program(*deeds)
            if not edges_or_none("across", program) or not edges_or_none("down", program):
                continue
            width, height = source.choice([7, 10 ** 29 + 1, 10 ** 40]), source.choice([8, 10 ** 31, 3 * 10 ** 38 + 1])
            strips = Strips(program, width, height)
            for _ in range(20):
                x, y = self.some(source, strips.columns), self.some(source, strips.rows)
                if 0 <= x < width and 0 <= y < height:
                    self.assertEqual(strips[x, y], colour_of(deeds, (x, y), width, height), (str(program), x, y))
                    looked += 1

    def some(self, source, ends):
        if source.random() < 0.3:
            return source.randrange(ends[-1])
        return source.choice(ends) + source.choice([-1, 0, 0, 1])

    def test_floods_and_choices(self):
        half = Fill(Box(0, from_middle(), 0, from_right()), 3)
        program = Program(half, Again(2, Flood(from_middle(), from_right(1), 4), Swap(3, 4), Flip("across")),
                          When(0, 0, 3, [Flood(0, 0, 5)], [Flood(from_right(1), 0, 6)]))
        # At odd sizes the first flip brings the longer half to the left, where the middle is in it.
        odd, even = Strips(program, 10 ** 38 + 1, 4), Strips(program, 10 ** 38, 4)
        self.assertEqual([odd.area(colour) for colour in (3, 4, 5, 6)], [0, 0, 4 * 10 ** 38 + 4, 0])
        self.assertEqual([even.area(colour) for colour in (3, 4, 5, 6)], [0, 2 * 10 ** 38, 2 * 10 ** 38, 0])
        self.assertEqual([len(odd.regions(index)) for index in range(3)], [2, 1, 0])
        self.assertEqual([self.wide(odd, cells) for cells in odd.regions(0)], [5 * 10 ** 37 + 1] * 2)
        self.assertEqual([self.wide(even, cells) for cells in even.regions(0)], [5 * 10 ** 37] * 2)

    def wide(self, strips, cells):
        return sum(strips.columns[i + 1] - strips.columns[i] for i, j in cells if j == 0)

    def test_quick_at_any_size(self):
        program = Program(Frame(WHOLE, 1), Again(4, Grow(2), Flip("across")), Flood(from_middle(), from_middle(), 2),
                          Copy(Box.inside(3), from_middle(), from_middle()))
        begun = time.process_time()
        for size in (50, 10 ** 20, 10 ** 40):
            strips = Strips(program, size, size)
            self.assertEqual(sum(strips.area(colour) for colour in range(10)), size * size)
        self.assertLess(time.process_time() - begun, 3)


class Equal(Case):
    def test_whatever_the_columns_are(self):
        plain = Program(Fill(Box(2, 5, 1, from_right()), 1))
        parted = Program(Fill(Box(2, 4, 1, from_right()), 1), Fill(Box(3, 5, 1, from_right()), 1), Swap(2, 3),
                         Flood(from_middle(), 0, 0))
        for width, height in ((1, 1), (2, 3), (4, 2), (7, 9), (10 ** 38, 10 ** 40)):
            one, other = Strips(plain, width, height), Strips(parted, width, height)
            self.same(one == other, True)
            self.same(one != other, False)
        self.assertNotEqual(Strips(plain, 9, 9).columns, Strips(parted, 9, 9).columns)

    def test_of_pictures(self):
        found = some_strips(46, 120)
        for one, _, rows in found:
            for other, _, other_rows in found[::7]:
                self.same(one == other, rows == other_rows)

    def test_one_pixel_of_another_colour(self):
        size = 10 ** 39
        blank = Strips(Program(), size, size)
        dotted = Strips(Program(Fill(Box(from_middle(), from_middle(1), from_right(1), from_right()), 1)), size, size)
        self.assertFalse(blank == dotted)
        self.assertFalse(dotted == blank)

    def test_sizes_and_other_things(self):
        blank = Strips(Program(), 5, 6)
        self.assertTrue(blank == Strips(Program(Swap(1, 2)), 5, 6))
        for other in (Strips(Program(), 6, 5), Strips(Program(), 5, 7), Strips(Program(), 4, 6), *VALUES,
                      Program()(5, 6)):
            self.assertFalse(blank == other)
            self.assertTrue(blank != other)


class Refused(Case):
    def test_sizes(self):
        for value in no_great_sizes():
            self.refused(BadSize("width"), Strips, MANY, value, None)
            self.refused(BadSize("height"), Strips, MANY, 1, value)

    def test_edges(self):
        self.refused(TooMany("edges", 60), Strips, MANY, 1, 1)
        tall = Program(*[Fill(Box(0, 1, 4 * k + 1, 4 * k + 3), 1) for k in range(14)], Flip("down"),
                       Fill(Box(0, 1, 70, from_middle()), 1))
        self.assertEqual(len(edges("down", tall)), 60)
        Strips(tall, 3, 3)
        self.refused(TooMany("edges", 60), Strips, tall.without(15) + Frame(Box(0, 1, 70, 72), 1), 1, 1)

    def test_pixels(self):
        strips = Strips(RING, 6, 5)
        for value in others(lambda value: is_whole(value) and 0 <= value < 5):
            if not (is_whole(value) and 0 <= value < 6):
                self.refused(BadPixel(value, 0), lambda: strips[value, 0])
            self.refused(BadPixel(0, value), lambda: strips[0, value])
        self.refused(BadPixel(6, 0), lambda: strips[6, 0])
        self.refused(BadPixel(-1, -1), lambda: strips[-1, -1])

    def test_cells(self):
        strips = Strips(Program(Frame(WHOLE, 1)), 9, 7)
        for value in others(lambda value: is_whole(value) and 0 <= value < 3):
            self.refused(BadPixel(value, 0), strips.colour_at, value, 0)
            self.refused(BadPixel(0, value), strips.colour_at, 0, value)
        self.refused(BadPixel(3, 3), strips.colour_at, 3, 3)

    def test_colours(self):
        strips = Strips(RING, 3, 3)
        for value in no_colours():
            self.refused(BadColour(value), strips.area, value)
            self.same(value in strips, False)

    def test_floods(self):
        strips = Strips(RING, 3, 3)
        for value in others(lambda value: is_whole(value) and value == 0):
            self.refused(NoFlood(value), strips.regions, value)
        self.refused(NoFlood(0), Strips(Program(), 3, 3).regions, 0)

    def test_pictures(self):
        self.refused(BadSize("width"), Strips(RING, 201, 10 ** 30).picture)
        self.refused(BadSize("height"), Strips(RING, 200, 201).picture)
        self.assertEqual(Strips(RING, 200, 200).picture(), RING(200, 200))
