"""Canvases [3], [5], [6]: pixels, fills, floods, what is shown, and trials."""

import random
import time

from heldfloods.canvases import Canvas
from heldfloods.errors import BadColour, BadPixel, BadSize, HoldError, Unlike
from heldfloods.pictures import Picture
from tests.helpers import VALUES, Case, is_whole, no_colours, no_sizes, others
from tests.naive import inside, region


def showing(*rows):
    canvas = Canvas(len(rows[0]), len(rows))
    canvas.show(Picture(rows))
    return canvas


def pixels_of(canvas):
    return {(x, y): canvas[x, y] for x in range(canvas.width) for y in range(canvas.height)}


class Made(Case):
    def test_all_pixels_are_0(self):
        canvas = Canvas(3, 2)
        self.assertEqual((canvas.width, canvas.height, canvas.shown.rows), (3, 2, ("000", "000")))
        self.assertEqual(Canvas(width=1, height=1).shown.rows, ("0",))
        self.assertEqual(Canvas(200, 200).shown.area(0), 40000)
        self.assertEqual(Canvas.MOST, 200)
        for name in ("width", "height", "shown"):
            self.assertIsInstance(vars(Canvas)[name], property)

    def test_the_size_stays(self):
        canvas = Canvas(3, 2)
        for name in ("width", "height"):
            with self.assertRaises(AttributeError):
                setattr(canvas, name, 1)
        self.assertEqual((canvas.width, canvas.height, canvas.shown.rows), (3, 2, ("000", "000")))

    def test_no_sizes(self):
        for value in no_sizes(200):
            self.refused(BadSize("width"), Canvas, value, None)
            self.refused(BadSize("height"), Canvas, 1, value)
            self.refused(BadSize("width"), Canvas, value, 200)

    def test_pixels(self):
        canvas = Canvas(3, 2)
        for colour, (x, y) in enumerate([(0, 0), (1, 0), (2, 0), (0, 1), (1, 1), (2, 1)]):
            canvas[x, y] = colour
            self.same(canvas[x, y], colour)
        self.assertEqual(canvas.shown.rows, ("012", "345"))

    def test_no_pixels(self):
        canvas = showing("012", "345")

        def put(x, y):
            canvas[x, y] = None

        for call in (put, lambda x, y: canvas[x, y]):
            for value in others(lambda value: is_whole(value) and 0 <= value < 3):
                self.refused(BadPixel(value, 1), call, value, 1)
            for value in others(lambda value: is_whole(value) and 0 <= value < 2):
                self.refused(BadPixel(2, value), call, 2, value)
            for x, y in ((-1, 0), (0, -1), (3, 1), (2, 2), (True, 0), (0, False), (None, None)):
                self.refused(BadPixel(x, y), call, x, y)
        self.assertEqual(canvas.shown.rows, ("012", "345"))

    def test_no_colours(self):
        canvas = showing("012", "345")

        def put(value):
            canvas[1, 1] = value

        for value in no_colours():
            self.refused(BadColour(value), put, value)
        self.assertEqual(canvas.shown.rows, ("012", "345"))

    def test_equality(self):
        self.same(showing("01") == showing("01"), True)
        self.same(showing("01") == showing("10"), False)
        self.same(showing("01") != showing("0", "1"), True)
        for value in VALUES + [Picture(["01"])]:
            if not isinstance(value, Canvas):
                self.same(showing("01") == value, False)
        one, other = Canvas(1, 1), Canvas(1, 1)
        one[0, 0] = 3
        self.assertFalse(one == other)

    def test_not_iterated(self):
        with self.assertRaises(TypeError):
            list(Canvas(1, 1))


class Fills(Case):
    def test_boxes(self):
        source = random.Random(3)
        for _ in range(400):
            width, height = source.randint(1, 5), source.randint(1, 5)
            canvas = Canvas(width, height)
            canvas.fill(0, 2, 1, 3, 4)
            box = [source.randint(-3, 8) for _ in range(4)]
            wanted = {pixel: 7 if inside(pixel, box) else colour for pixel, colour in pixels_of(canvas).items()}
            self.assertIsNone(canvas.fill(*box, 7))
            self.assertEqual(pixels_of(canvas), wanted)

    def test_empty_and_great_boxes(self):
        canvas = Canvas(3, 3)
        for box in ((1, 1, 0, 3), (2, 1, 0, 3), (0, 3, 2, 2), (0, 3, 3, 0), (3, 9, 0, 3), (-5, 0, 0, 3),
                    (9, -9, -9, 9)):
            canvas.fill(*box, 5)
            self.assertEqual(canvas.shown.area(0), 9, box)
        canvas.fill(x0=-10 ** 30, x1=10 ** 30, y0=1, y1=10 ** 30, colour=2)
        self.assertEqual(canvas.shown.rows, ("000", "222", "222"))

    def test_no_colours(self):
        canvas = Canvas(2, 2)
        for value in no_colours():
            self.refused(BadColour(value), canvas.fill, 0, 2, 0, 2, value)
            self.refused(BadColour(value), canvas.fill, 5, 2, 0, 2, value)
        self.assertEqual(canvas.shown.area(0), 4)


class Floods(Case):
    def test_regions(self):
        source = random.Random(5)
        for _ in range(300):
            width, height = source.randint(1, 6), source.randint(1, 6)
            canvas = Canvas(width, height)
            for pixel in pixels_of(canvas):
                canvas[pixel] = source.randrange(2)
            start, colour = (source.randrange(width), source.randrange(height)), source.randrange(3)
            wanted = pixels_of(canvas)
            found = region(wanted, start)
            wanted.update({pixel: colour for pixel in found})
            self.same(canvas.flood(*start, colour), len(found))
            self.assertEqual(pixels_of(canvas), wanted)

    def test_the_colour_that_it_has(self):
        canvas = showing("0110", "0010")
        self.same(canvas.flood(x=1, y=0, colour=1), 3)
        self.assertEqual(canvas.shown.rows, ("0110", "0010"))

    def test_beyond_the_canvas(self):
        canvas = showing("012", "345")
        for x, y in ((-1, 0), (0, -1), (3, 0), (0, 2), (-3, -2), (10 ** 30, 0), (0, -10 ** 30)):
            self.same(canvas.flood(x, y, 9), 0)
        self.assertEqual(canvas.shown.rows, ("012", "345"))

    def test_no_colours(self):
        canvas = showing("012", "345")
        for value in no_colours():
            self.refused(BadColour(value), canvas.flood, 0, 0, value)
            self.refused(BadColour(value), canvas.flood, 3, -1, value)
        self.assertEqual(canvas.shown.rows, ("012", "345"))

    def test_great_canvases(self):
        begun = time.perf_counter()
        canvas = Canvas(200, 200)
        self.assertEqual([canvas.flood(199, 0, colour) for colour in (1, 2, 2)], [40000] * 3)
        canvas.fill(0, 200, 0, 200, 0)
        for x in range(1, 200, 2):
            canvas.fill(x, x + 1, x // 2 % 2, 199 + x // 2 % 2, 1)
        self.assertEqual(canvas.flood(0, 0, 3), 100 * 200 + 100)
        self.assertEqual(canvas.flood(0, 0, 1), 100 * 200 + 100)
        self.assertEqual(canvas.flood(0, 0, 5), 40000)
        self.assertLess(time.perf_counter() - begun, 10)


class Shown(Case):
    def test_picture(self):
        canvas = showing("01", "23")
        earlier, also = canvas.picture(), canvas.shown
        self.assertEqual((type(earlier), earlier, also), (Picture, Picture(["01", "23"]), Picture(["01", "23"])))
        canvas[0, 0] = 9
        canvas.fill(0, 2, 1, 2, 8)
        canvas.flood(1, 0, 7)
        canvas |= Picture(["10", "10"])
        self.assertEqual((earlier.rows, also.rows, canvas.shown.rows), (("01", "23"), ("01", "23"), ("17", "18")))

    def test_shown_is_assigned(self):
        canvas = Canvas(2, 2)
        same, picture = canvas, Picture(["01", "23"])
        canvas.shown = picture
        self.assertEqual((same.picture(), canvas is same), (picture, True))
        self.assertIsNone(canvas.show(picture=Picture(["45", "67"])))
        self.assertEqual(same.shown.rows, ("45", "67"))
        canvas[0, 0] = 1
        self.assertEqual(picture.rows, ("01", "23"))

    def test_two_canvases_of_one_picture(self):
        picture = Picture(["01", "23"])
        one, other = Canvas(2, 2), Canvas(2, 2)
        one.shown = other.shown = picture
        one.fill(0, 2, 0, 2, 9)
        self.assertEqual((other.shown, picture.rows), (picture, ("01", "23")))

    def test_laid_over(self):
        canvas = showing("012", "300")
        same = canvas
        canvas |= Picture(["405", "060"])
        self.assertIs(canvas, same)
        self.assertEqual(same.shown.rows, ("415", "360"))

    def test_another_size(self):
        canvas = showing("012", "345")
        same = canvas

        def assign(picture):
            canvas.shown = picture

        for picture in (Picture(["012"]), Picture(["01", "23", "45"]), Picture(["0123", "4567"]), Picture(["0"])):
            self.refused(Unlike(), assign, picture)
            self.refused(Unlike(), canvas.show, picture)
            with self.assertRaises(Unlike):
                canvas |= picture
        self.assertIs(canvas, same)
        self.assertEqual(canvas.shown.rows, ("012", "345"))

    def test_nothing_else_is_laid_over(self):
        canvas = Canvas(1, 1)
        for value in (None, 1, "0", ["0"], Canvas(1, 1)):
            with self.assertRaises(TypeError):
                canvas |= value


class Trials(Case):
    def test_taken_back(self):
        canvas = showing("01", "23")
        with canvas.trial() as same:
            self.assertIs(same, canvas)
            same.fill(0, 2, 0, 1, 7)
            same[0, 1] = 8
            same.flood(1, 1, 9)
            same |= Picture(["00", "10"])
            same.shown = ~same.shown
            self.assertEqual(canvas.shown.rows, ("77", "91"))
        self.assertEqual(canvas.shown.rows, ("01", "23"))

    def test_from_the_begin_of_the_block(self):
        canvas = Canvas(1, 1)
        trial = canvas.trial()
        canvas[0, 0] = 4
        with trial:
            canvas[0, 0] = 5
        self.assertEqual(canvas[0, 0], 4)

    def test_nested(self):
        canvas = Canvas(2, 1)
        with canvas.trial() as outer:
            outer[0, 0] = 1
            with canvas.trial() as inner:
                inner[1, 0] = 2
                self.assertEqual(canvas.shown.rows, ("12",))
            self.assertEqual(canvas.shown.rows, ("10",))
            with canvas.trial():
                canvas[0, 0] = 3
            self.assertEqual(canvas.shown.rows, ("10",))
        self.assertEqual(canvas.shown.rows, ("00",))
        canvas[0, 0] = 6
        self.assertEqual(canvas.shown.rows, ("60",))

    def test_left_by_an_error(self):
        canvas = showing("01")
        for error in (BadPixel(1, 2), KeyError("x"), KeyboardInterrupt()):
            with self.assertRaises(type(error)) as caught:
                with canvas.trial():
                    canvas[0, 0] = 7
                    with canvas.trial():
                        canvas[1, 0] = 8
                        raise error
            self.assertIs(caught.exception, error)
            self.assertEqual(canvas.shown.rows, ("01",))

    def test_left_by_return_and_break(self):
        canvas = Canvas(1, 1)
        for _ in range(2):
            with canvas.trial():
                canvas[0, 0] = 7
                break
        self.assertEqual(canvas[0, 0], 0)

    def test_tried(self):
        canvas = showing("00", "10")
        for value in (None, 5, "x", [1], canvas):
            self.assertIs(canvas.tried(lambda same: value), value)
        self.assertEqual(canvas.tried(work=lambda same: (same is canvas, same.flood(0, 0, 7))), (True, 3))
        nested = canvas.tried(lambda same: same.tried(lambda inner: inner.flood(0, 0, 1)) + same.flood(0, 1, 0))
        self.assertEqual(nested, 4)
        self.assertEqual(canvas.shown.rows, ("00", "10"))

    def test_tried_with_an_error(self):
        canvas = Canvas(1, 1)

        def work(same):
            same[0, 0] = 3
            same[0, 1] = 3

        with self.assertRaises(HoldError):
            canvas.tried(work)
        self.assertEqual(canvas[0, 0], 0)
