"""Boxes [4], [5]: at sizes, mirrors, texts, and the first wrong place."""

import random

from heldfloods.boxes import Box
from heldfloods.errors import BadPlace, BadSize
from heldfloods.places import Place, from_left, from_middle, from_right
from tests.helpers import BIG, VALUES, Case, no_integers, no_places, no_sizes
from tests.naive import Maker, sides

NAMES = ("x0", "x1", "y0", "y1")


def boxes():
    maker = Maker(random.Random(13))
    return [maker.box() for _ in range(200)]


class Made(Case):
    def test_attributes_are_places(self):
        box = Box(1, from_right(2), Place(3, 4, 5), -6)
        self.assertEqual([getattr(box, name) for name in NAMES],
                         [from_left(1), from_right(2), Place(3, 4, 5), from_left(-6)])
        self.assertTrue(all(type(getattr(box, name)) is Place for name in NAMES))
        self.assertEqual(Box(y1=4, y0=3, x1=2, x0=1), Box(1, 2, 3, 4))

    def test_first_wrong_part(self):
        for value in no_places():
            for at, name in enumerate(NAMES):
                places = [0] * at + [value] + [None] * (3 - at)
                self.refused(BadPlace(name), Box, *places)

    def test_bounds(self):
        for place in (BIG, -BIG, Place(BIG, -BIG, BIG), Place(-BIG, BIG, -BIG)):
            self.assertIsInstance(Box(place, place, place, place), Box)
        beyond = [BIG + 1, -BIG - 1]
        parts = [(k, 0, 0) for k in beyond] + [(0, k, 0) for k in beyond] + [(0, 0, k) for k in beyond]
        for place in beyond + [Place(*three) for three in parts]:
            for at, name in enumerate(NAMES):
                places = [0] * 4
                places[at] = place
                self.refused(BadPlace(name), Box, *places)

    def test_equality(self):
        self.assertTrue(Box(0, 1, 2, 3) == Box(from_left(), 1, from_left(2), 3))
        for at in range(4):
            places = [0, 1, 2, 3]
            places[at] = from_middle(9)
            self.same(Box(0, 1, 2, 3) == Box(*places), False)
            self.same(Box(0, 1, 2, 3) != Box(*places), True)
        for value in VALUES + [(0, 1, 2, 3)]:
            if not isinstance(value, Box):
                self.same(Box(0, 1, 2, 3) == value, False)


class AtSizes(Case):
    def test_the_four_integers(self):
        for box in boxes():
            for width, height in ((1, 1), (1, 2), (2, 1), (5, 8), (10 ** 30, 9)):
                self.same(box(width, height), sides(box, width, height))
        self.assertEqual(Box(-3, from_right(-7), 5, from_middle())(height=3, width=2), (-3, 9, 5, 1))

    def test_no_sizes(self):
        box = Box.whole()
        for value in no_sizes():
            self.refused(BadSize("width"), box, value, None)
            self.refused(BadSize("height"), box, 1, value)


class Mirrors(Case):
    def test_mirrors(self):
        for box in boxes():
            self.assertEqual(~box, Box(~box.x1, ~box.x0, box.y0, box.y1))
            self.assertEqual(~~box, box)
            for width in (1, 2, 3, 8):
                x0, x1, y0, y1 = box(width, 4)
                self.assertEqual((~box)(width, 4), (width - x1, width - x0, y0, y1))

    def test_told_by_the_name_in_the_mirrored_box(self):
        far = (Place(-BIG, 0), Place(1 - BIG, 0), Place(0, 0, -BIG))
        for place in far:
            self.refused(BadPlace("x1"), lambda: ~Box(place, 0, 0, 0))
            self.refused(BadPlace("x0"), lambda: ~Box(0, place, 0, 0))
            self.refused(BadPlace("x0"), lambda: ~Box(place, place, 0, 0))
            self.assertEqual((~Box(0, 1, place, place)).y0, place)
        for place in (Place(2 - BIG, 0), Place(BIG, BIG, BIG), Place(0, -BIG, 1 - BIG)):
            self.assertEqual(~~Box(place, place, 0, 0), Box(place, place, 0, 0))


class WholeAndInside(Case):
    def test_whole(self):
        self.assertEqual(Box.whole(), Box(0, from_right(), 0, from_right()))
        self.assertEqual(Box.whole()(7, 3), (0, 7, 0, 3))

    def test_inside(self):
        for margin in (-2, 0, 1, 5, BIG, -BIG):
            self.assertEqual(Box.inside(margin), Box(margin, from_right(margin), margin, from_right(margin)))
        self.assertEqual(Box.inside(margin=2)(9, 3), (2, 7, 2, 1))

    def test_inside_refused(self):
        for value in no_integers():
            self.refused(BadPlace("margin"), Box.inside, value)
        for value in (BIG + 1, -BIG - 1, 10 ** 59):
            self.refused(BadPlace("x0"), Box.inside, value)


class Texts(Case):
    def test_texts(self):
        self.assertEqual(str(Box.whole()), "left 0 right 0 left 0 right 0")
        self.assertEqual(str(Box(1, Place(1, 0, 1), from_middle(-2), from_right(3))),
                         "left 1 place 1 0 1 middle -2 right 3")
