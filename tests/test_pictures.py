"""Pictures [3], [6]: made and refused, regions and ways, orders, overlays, flips and texts."""

import random
import time
from itertools import product

from heldfloods.errors import BadColour, BadDeed, BadPicture, BadPixel, BadSize, BadText, Unlike
from heldfloods.pictures import Picture
from tests.helpers import VALUES, Case, is_whole, no_colours, no_integers, no_sizes, others
from tests.naive import region


def some_picture(source, width, height, colours=2):
    return Picture(["".join(str(source.randrange(colours)) for _ in range(width)) for _ in range(height)])


def pixels_of(picture):
    return {(x, y): int(sign) for y, row in enumerate(picture.rows) for x, sign in enumerate(row)}


def small_pictures():
    source = random.Random(7)
    return [some_picture(source, width, height, colours)
            for width, height, colours in product((1, 2, 3, 7), (1, 2, 5), (1, 2, 3)) for _ in range(3)]


def winding(size):
    """A way that runs to and fro through all of a picture, and the number of its pixels."""
    rows = ["1" * size if y % 2 == 0 else ("0" * (size - 1) + "1" if y % 4 == 1 else "1" + "0" * (size - 1))
            for y in range(size)]
    return Picture(rows), sum(row.count("1") for row in rows)


def turned(picture):
    return Picture(["".join(column) for column in zip(*picture.rows)])


class Made(Case):
    def test_rows(self):
        for rows in (["0110", "0010"], ("0110", "0010")):
            picture = Picture(rows)
            self.assertEqual((picture.rows, picture.width, picture.height), (("0110", "0010"), 4, 2))
            self.assertIs(type(picture.rows), tuple)
        self.assertEqual(Picture(rows=["7"]).rows, ("7",))

    def test_properties(self):
        for name in ("rows", "width", "height"):
            self.assertIsInstance(vars(Picture)[name], property)
        self.assertEqual(Picture.MOST, 200)

    def test_never_changed(self):
        picture = Picture(["012", "345"])
        for name in ("rows", "width", "height"):
            with self.assertRaises(AttributeError):
                setattr(picture, name, 1)
        self.assertEqual((picture.rows, picture.width, picture.height), (("012", "345"), 3, 2))

    def test_later_changes_have_no_effect(self):
        rows = ["01", "23"]
        picture = Picture(rows)
        rows[0] = "99"
        rows.append("45")
        self.assertEqual(picture.rows, ("01", "23"))

    def test_greatest_and_least(self):
        self.assertEqual(Picture(["1" * 200] * 200).area(1), 40000)
        self.assertEqual(Picture(["5"])[0, 0], 5)

    def test_pixels(self):
        for picture in small_pictures():
            for (x, y), colour in pixels_of(picture).items():
                self.same(picture[x, y], colour)

    def test_contains_and_area(self):
        picture = Picture(["0110", "0010", "7000"])
        self.assertEqual([colour in picture for colour in range(10)], [colour in (0, 1, 7) for colour in range(10)])
        self.assertEqual([picture.area(colour) for colour in range(10)], [8, 3, 0, 0, 0, 0, 0, 1, 0, 0])
        self.assertEqual(picture.area(colour=7), 1)
        full = Picture(["0123456789"])
        for value in no_colours():
            self.same(value in full, False)

    def test_equality(self):
        self.assertTrue(Picture(["01"]) == Picture(("01",)))
        self.same(Picture(["01"]) == Picture(["10"]), False)
        self.same(Picture(["01"]) == Picture(["0", "1"]), False)
        self.same(Picture(["01"]) != Picture(["01"]), False)
        for value in VALUES + [["01"], ("01",), "01"]:
            if not isinstance(value, Picture):
                self.same(Picture(["01"]) == value, False)

    def test_plain(self):
        self.assertEqual(Picture.plain(3, 2).rows, ("000", "000"))
        self.assertEqual(Picture.plain(1, 4, 9).rows, ("9", "9", "9", "9"))
        self.assertEqual(Picture.plain(width=2, height=1, colour=5).rows, ("55",))
        self.assertEqual(Picture.plain(200, 200, 3).area(3), 40000)


class Refused(Case):
    def test_no_rows(self):
        for value in others(lambda value: isinstance(value, (list, tuple)) and 1 <= len(value) <= 200):
            self.refused(BadPicture(None), Picture, value)
        self.refused(BadPicture(None), Picture, ["0"] * 201)
        self.refused(BadPicture(None), Picture, ("x",) * 201)

    def test_first_wrong_row(self):
        for value in others(lambda value: isinstance(value, str) and value.isdigit() and len(value) <= 200):
            self.refused(BadPicture(0), Picture, [value])
            self.refused(BadPicture(2), Picture, ("0", "1", value, value))
        wrong = ["0a", "a0", " 0", "0 ", "0\n", "-1", "1.", "\u0661\u0662", "\u00b2\u00b2", b"01", ["0", "1"], "0",
                 "012", ""]
        for row in wrong:
            self.refused(BadPicture(1), Picture, ["01", row, None])
        self.refused(BadPicture(0), Picture, ["0" * 201, "0" * 201])
        self.refused(BadPicture(199), Picture, ["0" * 200] * 199 + ["0" * 199])

    def test_plain(self):
        for value in no_sizes(200):
            self.refused(BadSize("width"), Picture.plain, value, None, None)
            self.refused(BadSize("height"), Picture.plain, 200, value, "red")
        for value in no_colours():
            self.refused(BadColour(value), Picture.plain, 1, 200, value)

    def test_area(self):
        for value in no_colours():
            self.refused(BadColour(value), Picture(["01"]).area, value)

    def test_pixels(self):
        picture = Picture(["012", "345"])
        calls = (lambda x, y: picture[x, y], picture.region, lambda x, y: picture.way(x, y, None, None),
                 lambda x, y: picture.way(0, 0, x, y))
        for call in calls:
            for value in others(lambda value: is_whole(value) and 0 <= value < 3):
                self.refused(BadPixel(value, 0), call, value, 0)
            for value in others(lambda value: is_whole(value) and 0 <= value < 2):
                self.refused(BadPixel(0, value), call, 0, value)
            for x, y in ((-1, 0), (0, -1), (3, 0), (0, 2), (3, 2), (-3, -2), (True, False), (None, None)):
                self.refused(BadPixel(x, y), call, x, y)

    def test_axis(self):
        for value in others(lambda value: value in ("across", "down")):
            self.refused(BadDeed("axis"), Picture(["01"]).flipped, value)

    def test_read(self):
        for value in VALUES:
            if not isinstance(value, str):
                self.refused(BadText(0, 0), Picture.read, value)
        wrong = {"": 0, "a": 0, "01\n2": 1, "01\n\n01": 1, "01\n01\n": 2, "\n01": 0, "01 \n01": 0, "01\n 1": 1,
                 "0" * 201: 0, "0\n" * 199 + "00": 199, "0\n" * 150 + "x\n" + "0\n" * 60: 150, "-1": 0}
        for text, line in wrong.items():
            self.refused(BadText(line, 0), Picture.read, text)
        self.refused(BadText(200, 0), Picture.read, "\n".join(["0"] * 201))
        self.refused(BadText(200, 0), Picture.read, "\n".join(["0"] * 200 + ["x"]))
        self.refused(BadText(200, 0), Picture.read, "0\n" * 200)


class Regions(Case):
    def test_by_neighbours(self):
        for picture in small_pictures():
            pixels = pixels_of(picture)
            for x, y in pixels:
                wanted = tuple(sorted(region(pixels, (x, y)), key=lambda pixel: (pixel[1], pixel[0])))
                self.same(picture.region(x, y), wanted)

    def test_nothing_hangs_together_slantwise(self):
        picture = Picture(["10", "01"])
        self.assertEqual(picture.region(0, 0), ((0, 0),))
        self.assertEqual(picture.region(x=1, y=0), ((1, 0),))
        self.assertIsNone(picture.way(0, 0, 1, 1))

    def test_one_pixel(self):
        self.assertEqual(Picture(["4"]).region(0, 0), ((0, 0),))
        self.assertEqual(Picture(["4"]).way(0, 0, 0, 0), ((0, 0),))

    def test_ways(self):
        for picture in small_pictures():
            pixels = pixels_of(picture)
            for start in pixels:
                steps = distances(pixels, start)
                for goal in pixels:
                    self.look_at_way(picture, start, goal, steps.get(goal))

    def look_at_way(self, picture, start, goal, steps):
        way = picture.way(*start, *goal)
        if steps is None:
            self.assertIsNone(way)
            return
        self.assertIs(type(way), tuple)
        self.assertEqual((way[0], way[-1], len(way)), (start, goal, steps + 1))
        for (x, y), (next_x, next_y) in zip(way, way[1:]):
            self.assertEqual(abs(x - next_x) + abs(y - next_y), 1)
        self.assertEqual({picture[x, y] for x, y in way}, {picture[start]})
        self.assertEqual(way, picture.way(*start, *goal))

    def test_way_by_name(self):
        self.assertEqual(Picture(["000"]).way(x=2, y=0, to_x=0, to_y=0), ((2, 0), (1, 0), (0, 0)))

    def test_one_colour_at_the_greatest_size(self):
        full = Picture.plain(200, 200, 3)
        every = tuple((x, y) for y in range(200) for x in range(200))
        for x, y in ((5, 5), (0, 0), (199, 199), (0, 199)):
            self.same(full.region(x, y), every)
        for start, goal in (((0, 0), (199, 199)), ((199, 0), (0, 199)), ((7, 150), (7, 3)), ((3, 7), (150, 7))):
            self.look_at_way(full, start, goal, abs(start[0] - goal[0]) + abs(start[1] - goal[1]))
            self.look_at_way(full, goal, start, abs(start[0] - goal[0]) + abs(start[1] - goal[1]))
        begun = time.process_time()
        for _ in range(5):
            full.way(0, 0, 199, 199)
            full.region(5, 5)
        # Some 25 ms here.
        self.assertLess(time.process_time() - begun, 1)

    def test_many_regions(self):
        source = random.Random(11)
        for colours in (2, 2, 3, 4):
            picture = some_picture(source, 40, 40, colours)
            pixels = pixels_of(picture)
            seen = set()
            for start in pixels:
                if start not in seen:
                    steps = distances(pixels, start)
                    seen.update(steps)
                    wanted = tuple(sorted(steps, key=lambda pixel: (pixel[1], pixel[0])))
                    self.same(picture.region(*start), wanted)
                    for goal in source.sample(sorted(steps), min(4, len(steps))):
                        self.look_at_way(picture, start, goal, steps[goal])
                        self.look_at_way(picture, goal, start, steps[goal])

    def test_ways_among_bars(self):
        source = random.Random(12)
        for _ in range(60):
            rows = [["0"] * 16 for _ in range(14)]
            for _ in range(source.randint(3, 9)):
                x, y, long = source.randrange(16), source.randrange(14), source.randint(2, 11)
                for k in range(long):
                    at = (x + k, y) if long % 2 else (x, y + k)
                    if at[0] < 16 and at[1] < 14:
                        rows[at[1]][at[0]] = "1"
            picture = Picture(["".join(row) for row in rows])
            pixels = pixels_of(picture)
            for start in source.sample(sorted(pixels), 6):
                steps = distances(pixels, start)
                for goal in source.sample(sorted(steps), min(25, len(steps))):
                    self.look_at_way(picture, start, goal, steps[goal])
                    self.look_at_way(turned(picture), start[::-1], goal[::-1], steps[goal])

    def test_ways_round_about(self):
        # Each way first has to lead away from its goal.
        cup = Picture(["0" * 60, "0" + "1" * 58 + "0", *["01" + "0" * 56 + "10"] * 50, "0" * 60])
        wall = Picture([*["0" * 30 + "1" + "0" * 29] * 50, "0" * 60])
        for picture, start, goal in ((cup, (30, 20), (30, 0)), (cup, (2, 2), (0, 2)), (wall, (0, 0), (59, 0))):
            steps = distances(pixels_of(picture), start)
            self.look_at_way(picture, start, goal, steps[goal])
            self.look_at_way(picture, goal, start, steps[goal])
        rows, _ = winding(60)
        steps = distances(pixels_of(rows), (0, 0))
        for goal in ((0, 58), (59, 56), (30, 30), (59, 1)):
            self.look_at_way(rows, (0, 0), goal, steps[goal])
            self.look_at_way(rows, goal, (0, 0), steps[goal])

    def test_long_winding_regions(self):
        picture, many = winding(200)
        comb = Picture(["1" * 200] + ["10" * 100] * 199)
        begun = time.perf_counter()
        for one in (picture, turned(picture), ~picture, picture.flipped("down")):
            x, y = one.region(0, 0)[0] if one[0, 0] == 1 else one.region(199, 0)[0]
            self.assertEqual(len(one.region(x, y)), many)
        self.assertEqual(len(picture.way(0, 0, 0, 199)), many)
        self.assertEqual(len(turned(picture).way(0, 0, 199, 0)), many)
        self.assertEqual(len(comb.region(0, 199)), 200 + 199 * 100)
        self.assertEqual(len(comb.way(0, 199, 198, 199)), 199 + 199 + 199)
        full = Picture.plain(200, 200)
        self.assertEqual(len(full.region(100, 100)), 40000)
        self.assertEqual(len(full.way(0, 0, 199, 199)), 399)
        self.assertLess(time.perf_counter() - begun, 10)


def distances(pixels, start):
    """How many steps it takes from a pixel to each one of its region."""
    found, rest = {start: 0}, [start]
    for x, y in rest:
        for near in ((x - 1, y), (x + 1, y), (x, y - 1), (x, y + 1)):
            if near not in found and pixels.get(near) == pixels[start]:
                found[near] = found[x, y] + 1
                rest.append(near)
    return found


class TwoPictures(Case):
    def setUp(self):
        source = random.Random(11)
        self.pairs = []
        for width, height, colours in product((1, 2, 3), (1, 2), (2, 3, 10)):
            for _ in range(12):
                one = some_picture(source, width, height, colours)
                self.pairs.append((one, some_picture(source, width, height, colours)))
                self.pairs.append((one & self.pairs[-1][1], one))
            self.pairs.append((one, one))

    def test_orders(self):
        for one, other in self.pairs:
            first, second = pixels_of(one), pixels_of(other)
            within = all(colour in (0, second[pixel]) for pixel, colour in first.items())
            around = all(colour in (0, first[pixel]) for pixel, colour in second.items())
            self.same(one <= other, within)
            self.same(one < other, within and first != second)
            self.same(one >= other, around)
            self.same(one > other, around and first != second)

    def test_overlays(self):
        for one, other in self.pairs:
            kept = one.rows, other.rows
            first, second = pixels_of(one), pixels_of(other)
            self.assertEqual(pixels_of(one | other), {p: first[p] or second[p] for p in first})
            self.assertEqual(pixels_of(one & other), {p: first[p] if first[p] == second[p] else 0 for p in first})
            self.assertEqual(pixels_of(one ^ other),
                             {p: 0 if first[p] == second[p] else first[p] or second[p] for p in first})
            self.assertEqual((one.rows, other.rows), kept)

    def test_in_place_binds_a_new_picture(self):
        first = Picture(["012"])
        other = Picture(["111"])
        one = first
        one |= other
        self.assertEqual((one.rows, first.rows), (("112",), ("012",)))
        one = first
        one &= other
        self.assertEqual((one.rows, first.rows), (("010",), ("012",)))
        one = first
        one ^= other
        self.assertEqual((one.rows, first.rows, other.rows), (("102",), ("012",), ("111",)))

    def test_another_size(self):
        one = Picture(["01", "10"])
        for other in (Picture(["01"]), Picture(["0", "1"]), Picture(["010", "101"]), Picture(["0110"])):
            for call in (lambda: one <= other, lambda: one < other, lambda: one >= other, lambda: one > other,
                         lambda: one | other, lambda: one & other, lambda: one ^ other, lambda: other | one):
                self.refused(Unlike(), call)
        kept = one
        for sign in ("|", "&", "^"):
            with self.assertRaises(Unlike):
                if sign == "|":
                    one |= Picture(["0"])
                elif sign == "&":
                    one &= Picture(["0"])
                else:
                    one ^= Picture(["0"])
        self.assertIs(one, kept)

    def test_nothing_else_is_laid_over_or_ordered(self):
        one = Picture(["01"])
        for value in (None, 1, "01", ["01"]):
            for call in (lambda: one | value, lambda: one & value, lambda: one ^ value, lambda: one <= value,
                         lambda: one < value, lambda: one >= value, lambda: one > value):
                with self.assertRaises(TypeError):
                    call()

    def test_great_pictures(self):
        begun = time.perf_counter()
        picture, _ = winding(200)
        other = turned(picture)
        self.assertEqual((picture | other) ^ (picture & other) == (picture ^ other), True)
        self.assertTrue(picture & other < picture and picture | other > other)
        self.assertLess(time.perf_counter() - begun, 10)


class Flips(Case):
    def test_both_axes(self):
        for picture in small_pictures():
            width, height, pixels = picture.width, picture.height, pixels_of(picture)
            across = {(width - 1 - x, y): colour for (x, y), colour in pixels.items()}
            down = {(x, height - 1 - y): colour for (x, y), colour in pixels.items()}
            self.assertEqual(pixels_of(picture.flipped("across")), across)
            self.assertEqual(pixels_of(~picture), across)
            self.assertEqual(pixels_of(picture.flipped(axis="down")), down)
            self.assertEqual(~~picture, picture)


class Texts(Case):
    def test_text_and_back(self):
        self.assertEqual(str(Picture(["01", "23"])), "01\n23")
        self.assertEqual(str(Picture(["7"])), "7")
        for picture in small_pictures() + [Picture.plain(200, 200, 8)]:
            self.assertEqual(Picture.read(text=str(picture)), picture)


class NotIterated(Case):
    def test_no_integers_as_pixels(self):
        # True and False are no integers, so not even the pixel (True, False) is one.
        for value in no_integers():
            self.refused(BadPixel(value, value), lambda: Picture(["00", "00"])[value, value])
        with self.assertRaises(TypeError):
            list(Picture(["0"]))
