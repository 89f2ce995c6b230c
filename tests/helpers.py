"""What the tests share: wrong values of many kinds, and a check of the very fields of an error."""

import unittest

from heldfloods.areas import Sum
from heldfloods.boxes import Box
from heldfloods.canvases import Canvas
from heldfloods.claims import Claim, Mirrored, NoneLeft
from heldfloods.classes import Sizes
from heldfloods.deeds import Deed, Fill, Grow
from heldfloods.errors import BadPlace
from heldfloods.floods import Leak
from heldfloods.judge import No
from heldfloods.pictures import Picture
from heldfloods.places import Place
from heldfloods.programs import Program
from heldfloods.strips import Strips
from heldfloods.walls import Walls

BIG = 10 ** 12
HUGE = 10 ** 60 - 1
INTEGERS = [0, 1, -1, 2, 3, 9, 10, 200, 201, BIG, -BIG, BIG + 1, -BIG - 1, HUGE, -HUGE]
TEXTS = ["", "1", "0", "01", "across", "down", "left 0", "none", " ", "a\nb", "x" * 2000]
LISTS = [[], [1], ["0"], ["01", "0"], [None], [True, False], [[["deep"]]], [1, 2, 3, 4]]
TUPLES = [(), (1,), (0, 0), ("0",), (None, None), ((((1,),),),), (1, 2, 3)]
DICTS = [{}, {"x": 1}, {0: 0}, {"a": [1, {"b": ()}]}]
OBJECTS = [
    Place(0, 0), Place(1, 2, 3), Place(BIG + 1, 0), Picture(["01", "23"]), Canvas(2, 3), Box(0, 1, 0, 1),
    Fill(Box(0, 1, 0, 1), 2), Grow(1), Deed(), Program(), Program(Grow(3)), BadPlace("x"),
    NoneLeft(2), ~Mirrored("down"), Sizes(3), Strips(Program(), 2, 3), No(77, 5, (0, 1)), Leak(1, 1, ((0, 0),)),
    Walls(None, ()), Sum(1, 0, 0, 2),
]
CONSTANTS = [None, True, False]
VALUES = CONSTANTS + INTEGERS + TEXTS + LISTS + TUPLES + DICTS + OBJECTS


def is_whole(value):
    """Whether a value is an integer, as the document has it."""
    return type(value) is int


def others(wanted):
    """The values for which wanted does not hold."""
    return [value for value in VALUES if not wanted(value)]


def no_integers():
    return others(is_whole)


def no_colours():
    return others(lambda value: is_whole(value) and 0 <= value <= 9)


def no_sizes(most=None):
    return others(lambda value: is_whole(value) and value >= 1 and (most is None or value <= most))


def no_great_sizes():
    """The values that are no sizes of a canvas, however great it may be."""
    return no_sizes(10 ** 40) + [10 ** 40 + 1]


def no_programs():
    return others(lambda value: isinstance(value, Program))


def no_boxes():
    return others(lambda value: isinstance(value, Box))


def no_claims():
    return others(lambda value: isinstance(value, Claim))


def no_places():
    """The values that are no places in a box, a deed or a claim."""
    return others(is_place)


def is_place(value):
    if is_whole(value):
        return abs(value) <= BIG
    return isinstance(value, Place) and all(abs(part) <= BIG for part in (value.slope, value.offset, value.odd))


def same(one, other):
    """Whether two values are equal and of the same kind."""
    return type(one) is type(other) and (one is other or one == other)


class Case(unittest.TestCase):
    """A test case that looks at the very fields of an error."""

    def refused(self, error, call, *arguments, **named):
        """That the call raises an error of just this class with just these fields."""
        with self.assertRaises(type(error)) as caught:
            call(*arguments, **named)
        told, wanted = vars(caught.exception), vars(error)
        self.assertIs(type(caught.exception), type(error))
        self.assertEqual(sorted(told), sorted(wanted))
        for name in wanted:
            self.assertTrue(same(told[name], wanted[name]), (name, told[name], wanted[name]))

    def same(self, one, other):
        """That two values are equal and of the same kind."""
        self.assertTrue(same(one, other), (one, other))
