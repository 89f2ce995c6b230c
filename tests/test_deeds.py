"""Deeds [6], [8]: their classes, what they refuse, what they do, their mirrors and texts."""

import random

from heldfloods.boxes import Box
from heldfloods.canvases import Canvas
from heldfloods.deeds import (Again, Blocked, Boxed, Coloured, Copy, Deed, Fill, Flip, Flood, Frame, Grow, Pointed,
                              Swap, When)
from heldfloods.errors import BadColour, BadDeed, BadPlace
from heldfloods.pictures import Picture
from heldfloods.places import Place, from_left, from_middle, from_right
from tests.helpers import BIG, VALUES, Case, is_whole, no_colours, no_places, others
from tests.naive import Maker, do, rows

CLASSES = (Fill, Frame, Flood, Copy, Flip, Swap, Grow, Again, When)
METHODS = ("on", "each", "__invert__", "__eq__", "__str__")
WHOLE = Box.whole()
FAR = (Place(-BIG, 0), Place(1 - BIG, 0), Place(0, 0, -BIG))


def one_of_each():
    """Deeds no two of which are equal."""
    box = Box(0, from_right(1), 1, from_middle())
    return [
        Fill(WHOLE, 1), Fill(WHOLE, 2), Fill(box, 1), Frame(WHOLE, 1), Frame(WHOLE, 2), Frame(box, 1),
        Frame(WHOLE, 1, 2), Flood(0, 0, 1), Flood(1, 0, 1), Flood(0, 1, 1), Flood(0, 0, 2), Copy(WHOLE, 0, 0),
        Copy(box, 0, 0), Copy(WHOLE, 1, 0), Copy(WHOLE, 0, 1), Flip("across"), Flip("down"),
        Swap(1, 2), Swap(2, 1), Swap(1, 1),
        Grow(1), Grow(2), Again(1), Again(2), Again(1, Grow(1)), Again(1, Grow(1), Grow(1)), Again(1, Grow(2)),
        When(0, 0, 1, []), When(1, 0, 1, []), When(0, 1, 1, []), When(0, 0, 2, []), When(0, 0, 1, [Grow(1)]),
        When(0, 0, 1, [], [Grow(1)]), When(0, 0, 1, [Grow(1)], [Grow(1)]), When(0, 0, 1, [Again(1)]),
    ]


def showing(*lines):
    canvas = Canvas(len(lines[0]), len(lines))
    canvas.show(Picture(lines))
    return canvas


def done(deed, *lines):
    """The rows of a canvas behind a deed."""
    canvas = showing(*lines)
    assert deed.on(canvas) is None
    return canvas.shown.rows


class Classes(Case):
    def test_bases(self):
        bases = {
            Boxed: (Fill, Frame, Copy), Pointed: (Flood, Copy, When), Coloured: (Fill, Frame, Flood, Grow, When),
            Blocked: (Again, When), Deed: CLASSES,
        }
        for base, wanted in bases.items():
            self.assertTrue(issubclass(base, Deed))
            self.assertEqual([kind for kind in CLASSES if issubclass(kind, base)],
                             [kind for kind in CLASSES if kind in wanted], base)
        for kind in CLASSES:
            self.assertEqual([other for other in CLASSES if issubclass(kind, other)], [kind])

    def test_methods_stand_in_each_class(self):
        for kind in CLASSES + (Deed,):
            self.assertEqual([name for name in METHODS if name not in vars(kind)], [], kind)
        self.assertIn("each", vars(Blocked))

    def test_each_of_a_block(self):
        class Plain(Blocked):
            def __init__(self, *deeds):
                self.deeds = deeds

        inner = Again(2, Grow(3))
        block = Plain(Grow(1), inner)
        self.assertEqual([id(deed) for deed in block.each()],
                         [id(deed) for deed in (block, block.deeds[0], inner, inner.deeds[0])])

    def test_places_box_and_colour(self):
        for deed in (Fill(WHOLE, 3), Frame(box=WHOLE, colour=3, thick=1), Fill(colour=3, box=WHOLE)):
            self.assertEqual((deed.box, deed.colour), (WHOLE, 3))
        for deed in (Flood(2, from_right(), 3), Copy(x=2, y=from_right(), box=WHOLE),
                     When(colour=3, y=from_right(), x=2, deeds=())):
            self.assertEqual((deed.x, deed.y), (from_left(2), from_right()))
            self.assertTrue(isinstance(deed.x, Place) and isinstance(deed.y, Place))
        self.assertEqual([Flood(0, 0, 3).colour, Grow(colour=4).colour, When(0, 0, 5, []).colour], [3, 4, 5])
        self.assertEqual(Copy(WHOLE, 1, 2).box, WHOLE)

    def test_further_attributes(self):
        self.assertEqual([Frame(WHOLE, 1).thick, Frame(WHOLE, 1, 7).thick, Flip(axis="down").axis], [1, 7, "down"])
        swap = Swap(other=4, one=3)
        self.assertEqual((swap.one, swap.other), (3, 4))
        again, when = Again(9, Grow(1), Grow(2)), When(0, 0, 1, [Grow(1)], [Grow(2)])
        self.assertEqual((again.times, again.deeds), (9, (Grow(1), Grow(2))))
        self.assertEqual((Again(times=0).times, Again(0).deeds, Again.MOST), (0, (), 9))
        self.assertEqual((when.deeds, when.others), ((Grow(1),), (Grow(2),)))
        self.assertEqual((When(0, 0, 1, ()).deeds, When(0, 0, 1, ()).others), ((), ()))
        self.assertTrue(all(type(block) is tuple for block in (again.deeds, when.deeds, when.others)))

    def test_later_changes_have_no_effect(self):
        deeds, rest = [Grow(1)], [Grow(2)]
        when = When(0, 0, 1, deeds, rest)
        deeds.append(Grow(3))
        rest.clear()
        self.assertEqual((when.deeds, when.others), ((Grow(1),), (Grow(2),)))

    def test_equality(self):
        for at, one in enumerate(one_of_each()):
            for k, other in enumerate(one_of_each()):
                self.same(one == other, at == k)
                self.same(one != other, at != k)
            for value in VALUES:
                if not isinstance(value, Deed):
                    self.same(one == value, False)
        self.assertTrue(When(0, 0, 1, [Grow(1)], (Grow(2),)) == When(0, from_left(), 1, (Grow(1),), [Grow(2)]))

    def test_each(self):
        for deed in one_of_each():
            if not isinstance(deed, Blocked):
                self.assertEqual([one is deed for one in deed.each()], [True])
        inner = Again(0, Grow(2), Grow(3))
        when = When(0, 0, 1, [Grow(1), inner], [Grow(4), When(1, 1, 1, [], [Grow(5)])])
        wanted = [when, Grow(1), inner, Grow(2), Grow(3), Grow(4), When(1, 1, 1, [], [Grow(5)]), Grow(5)]
        self.assertEqual(list(when.each()), wanted)
        again = Again(9, when, Grow(6))
        self.assertEqual(list(again.each()), [again, *wanted, Grow(6)])


class Refused(Case):
    def test_boxes(self):
        for value in others(lambda value: isinstance(value, Box)):
            self.refused(BadDeed("box"), Fill, value, None)
            self.refused(BadDeed("box"), Frame, value, None, None)
            self.refused(BadDeed("box"), Copy, value, None, None)

    def test_places(self):
        for value in no_places():
            self.refused(BadPlace("x"), Flood, value, None, None)
            self.refused(BadPlace("y"), Flood, 0, value, None)
            self.refused(BadPlace("x"), Copy, WHOLE, value, None)
            self.refused(BadPlace("y"), Copy, WHOLE, 0, value)
            self.refused(BadPlace("x"), When, value, None, None, None, None)
            self.refused(BadPlace("y"), When, 0, value, None, None, None)

    def test_bounds_of_places(self):
        for make in (lambda x, y: Flood(x, y, 0), lambda x, y: Copy(WHOLE, x, y), lambda x, y: When(x, y, 0, [])):
            for place in (BIG, -BIG, Place(BIG, -BIG, BIG)):
                self.assertEqual(make(place, place).x, place if isinstance(place, Place) else from_left(place))
            for place in (BIG + 1, -BIG - 1, Place(BIG + 1, 0), Place(0, -BIG - 1), Place(0, 0, BIG + 1)):
                self.refused(BadPlace("x"), make, place, place)
                self.refused(BadPlace("y"), make, 0, place)

    def test_colours(self):
        for value in no_colours():
            for call in (lambda: Fill(WHOLE, value), lambda: Frame(WHOLE, value, None), lambda: Flood(0, 0, value),
                         lambda: Swap(value, None), lambda: Swap(0, value), lambda: Grow(value),
                         lambda: When(0, 0, value, None, None)):
                self.refused(BadColour(value), call)

    def test_thickness_and_axis(self):
        for value in others(lambda value: is_whole(value) and value >= 1):
            self.refused(BadDeed("thick"), Frame, WHOLE, 1, value)
        for value in others(lambda value: value in ("across", "down")):
            self.refused(BadDeed("axis"), Flip, value)
        self.assertEqual(Frame(WHOLE, 1, 10 ** 40).thick, 10 ** 40)

    def test_times(self):
        for value in others(lambda value: is_whole(value) and 0 <= value <= 9):
            self.refused(BadDeed("times"), Again, value)
            self.refused(BadDeed("times"), Again, value, None)

    def test_blocks(self):
        for value in others(lambda value: isinstance(value, Deed)):
            self.refused(BadDeed("deeds"), Again, 9, value)
            self.refused(BadDeed("deeds"), Again, 0, Grow(1), value, Grow(2))
            self.refused(BadDeed("deeds"), When, 0, 0, 1, [Grow(1), value], None)
            self.refused(BadDeed("others"), When, 0, 0, 1, [Grow(1)], (value,))
        for value in others(lambda value: value in ([], ())) + [Grow(1)]:
            self.refused(BadDeed("deeds"), When, 0, 0, 1, value, value)
            self.refused(BadDeed("others"), When, 0, 0, 1, (), value)


class Painted(Case):
    def test_by_the_definitions(self):
        maker = Maker(random.Random(17))
        for _ in range(1500):
            deed = maker.deed()
            width, height = maker.source.randint(1, 6), maker.source.randint(1, 6)
            pixels = {(x, y): maker.source.randrange(4) for x in range(width) for y in range(height)}
            found = done(deed, *rows(pixels, width, height))
            self.assertEqual(found, rows(do(deed, pixels, width, height), width, height), str(deed))

    def test_fill(self):
        self.assertEqual(done(Fill(Box(1, from_right(), -2, 1), 7), "0123", "4567"), ("0777", "4567"))
        self.assertEqual(done(Fill(Box(2, 2, 0, 2), 7), "0123", "4567"), ("0123", "4567"))
        self.assertEqual(done(Fill(WHOLE, 9), "0"), ("9",))
        self.assertEqual(done(Fill(Box(-BIG, BIG, -BIG, BIG), 9), "00"), ("99",))

    def test_frame(self):
        self.assertEqual(done(Frame(WHOLE, 1), "00000", "00000", "00000"), ("11111", "10001", "11111"))
        self.assertEqual(done(Frame(WHOLE, 1, 2), *["0" * 6] * 5), ("111111",) * 2 + ("110011",) + ("111111",) * 2)
        self.assertEqual(done(Frame(WHOLE, 1, 3), *["0" * 6] * 5), ("111111",) * 5)
        self.assertEqual(done(Frame(WHOLE, 1, 10 ** 50), "00", "00"), ("11", "11"))
        # Reaching outside, the frame has only those of its sides that lie on the canvas.
        self.assertEqual(done(Frame(Box(-1, 3, 1, 9), 1), "0000", "0000", "0000"), ("0000", "1110", "0010"))
        self.assertEqual(done(Frame(Box(-2, 6, -2, 5), 1), "0000", "0000", "0000"), ("0000",) * 3)
        for box in (Box(2, 2, 0, 3), Box(3, 1, 0, 3), Box(0, 3, 2, 1), Box(9, 12, 0, 3)):
            self.assertEqual(done(Frame(box, 1, 2), "000", "000", "000"), ("000",) * 3)

    def test_flood(self):
        self.assertEqual(done(Flood(0, 0, 5), "0010", "1100"), ("5510", "1100"))
        self.assertEqual(done(Flood(from_right(1), 0, 5), "0010", "1100"), ("0015", "1155"))
        for place in (-1, from_right(), 10 ** 9):
            self.assertEqual(done(Flood(place, 0, 5), "00", "00"), ("00", "00"))
            self.assertEqual(done(Flood(0, place, 5), "00", "00"), ("00", "00"))
        self.assertEqual(done(Flood(0, 0, 0), "01"), ("01",))
        self.assertEqual(done(Flood(from_middle(), from_middle(), 3), "0"), ("3",))

    def test_flips_swap_and_grow(self):
        self.assertEqual(done(Flip("across"), "0123", "4567"), ("3210", "7654"))
        self.assertEqual(done(Flip("down"), "0123", "4567"), ("4567", "0123"))
        self.assertEqual(done(Swap(1, 0), "0123", "1102"), ("1023", "0012"))
        self.assertEqual(done(Swap(2, 2), "0123"), ("0123",))
        self.assertEqual(done(Swap(8, 9), "0123"), ("0123",))
        self.assertEqual(done(Grow(1), "00000", "00100", "00000"), ("00100", "01110", "00100"))
        self.assertEqual(done(Grow(0), "12", "30"), ("10", "00"))
        self.assertEqual(done(Grow(1), "10002"), ("11002",))
        self.assertEqual(done(Grow(5), "1"), ("1",))

    def test_copy_overlapping(self):
        self.assertEqual(done(Copy(Box(0, 3, 0, 1), 1, 0), "1234"), ("1123",))
        self.assertEqual(done(Copy(Box(1, 4, 0, 1), 0, 0), "1234"), ("2344",))
        self.assertEqual(done(Copy(Box(0, 1, 0, 3), 0, 1), "1", "2", "3", "4"), ("1", "1", "2", "3"))
        self.assertEqual(done(Copy(Box(0, 1, 1, 4), 0, 0), "1", "2", "3", "4"), ("2", "3", "4", "4"))
        self.assertEqual(done(Copy(WHOLE, 0, 0), "12", "34"), ("12", "34"))
        self.assertEqual(done(Copy(WHOLE, 1, 1), "123", "456", "789"), ("123", "412", "745"))
        self.assertEqual(done(Copy(WHOLE, -1, -1), "123", "456", "789"), ("563", "896", "789"))

    def test_copy_outside(self):
        self.assertEqual(done(Copy(Box(0, 2, 0, 1), 3, 0), "1234"), ("1231",))
        self.assertEqual(done(Copy(Box(0, 2, 0, 1), -1, 0), "1234"), ("2234",))
        # The box begins at -1, so the pixel 0 of the canvas is its second one.
        self.assertEqual(done(Copy(Box(-1, 1, 0, 1), 2, 0), "1234"), ("1231",))
        self.assertEqual(done(Copy(Box(3, 9, 0, 1), 0, 0), "1234"), ("4234",))
        for x, y in ((4, 0), (-2, 0), (0, 1), (0, -1), (BIG, -BIG)):
            self.assertEqual(done(Copy(Box(0, 2, 0, 1), x, y), "1234"), ("1234",))
        for box in (Box(4, 9, 0, 1), Box(-3, 0, 0, 1), Box(2, 1, 0, 1), Box(0, 4, 1, 0), Box(0, 4, 5, 9)):
            self.assertEqual(done(Copy(box, 1, 0), "1234"), ("1234",))

    def test_again_and_when(self):
        grow = Grow(1)
        self.assertEqual([done(Again(times, grow), "1000000000") for times in (0, 1, 2, 9)],
                         [("1000000000",), ("1100000000",), ("1110000000",), ("1111111111",)])
        self.assertEqual(done(Again(2, Again(2, grow), Flip("across")), "100000"), ("111110",))
        self.assertEqual(done(Again(1, grow, Swap(0, 1)), "100"), ("001",))
        self.assertEqual(done(When(0, 0, 1, [Fill(WHOLE, 5)], [Fill(WHOLE, 6)]), "10"), ("55",))
        self.assertEqual(done(When(0, 0, 1, [Fill(WHOLE, 5)], [Fill(WHOLE, 6)]), "01"), ("66",))
        self.assertEqual(done(When(0, 0, 1, [Fill(WHOLE, 5)]), "01"), ("01",))
        for place in (-1, from_right(), 10 ** 9):
            self.assertEqual(done(When(place, 0, 1, [Fill(WHOLE, 5)], [Fill(WHOLE, 6)]), "11"), ("66",))
            self.assertEqual(done(When(0, place, 1, [Fill(WHOLE, 5)], [Fill(WHOLE, 6)]), "11"), ("66",))

    def test_when_asks_at_its_moment(self):
        again = Again(3, When(0, 0, 0, [Swap(0, 1)], [Swap(1, 2), Fill(Box(1, 2, 0, 1), 7)]))
        # The first time makes 11 of 00, the second one 27 of this, the third one 17.
        self.assertEqual(done(again, "00"), ("17",))
        inner = When(1, 0, 4, [When(0, 0, 4, [Fill(WHOLE, 8)], [Fill(WHOLE, 9)])])
        self.assertEqual([done(inner, "44"), done(inner, "34"), done(inner, "33")], [("88",), ("99",), ("33",)])
        self.assertEqual(done(When(0, 0, 0, [Fill(WHOLE, 1), When(0, 0, 1, [Grow(1)], [Fill(WHOLE, 2)])]), "0"), ("1",))


class Mirrors(Case):
    def test_mirrored_parts(self):
        box = Box(1, from_middle(2), 3, from_right(4))
        x = Place(3, 5, 7)
        self.assertEqual(~Fill(box, 1), Fill(~box, 1))
        self.assertEqual(~Frame(box, 1, 3), Frame(~box, 1, 3))
        self.assertEqual(~Flood(x, x, 1), Flood(~x - 1, x, 1))
        self.assertEqual(~Copy(box, x, x), Copy(~box, ~(x + box.x1 - box.x0), x))
        for deed in (Flip("across"), Flip("down"), Swap(1, 2), Grow(3)):
            self.assertEqual(~deed, deed)
        self.assertEqual(~Again(3, Flood(x, x, 1), Grow(2)), Again(3, Flood(~x - 1, x, 1), Grow(2)))
        self.assertEqual(~When(x, x, 1, [Fill(box, 1)], [Flood(x, x, 1)]),
                         When(~x - 1, x, 1, [Fill(~box, 1)], [Flood(~x - 1, x, 1)]))

    def test_mirrors_of_mirrors(self):
        maker = Maker(random.Random(19))
        for _ in range(300):
            deed = maker.deed()
            text = str(deed)
            self.assertEqual(~~deed, deed)
            self.assertEqual(str(deed), text)

    def test_flipped_pictures(self):
        maker = Maker(random.Random(23))
        for _ in range(600):
            deed = maker.deed()
            width, height = maker.source.randint(1, 6), maker.source.randint(1, 5)
            picture = Picture(["".join(str(maker.source.randrange(4)) for _ in range(width)) for _ in range(height)])
            one, other = showing(*picture.rows), showing(*(~picture).rows)
            deed.on(one)
            (~deed).on(other)
            self.assertEqual(other.shown, ~one.shown, str(deed))

    def test_beyond_the_bound(self):
        for place in FAR + (from_left(BIG),):
            for deed in (Flood(place, place, 1), When(place, 0, 1, [])):
                self.refused(BadPlace("x"), lambda: ~deed)
        for place in FAR:
            for make in (lambda box: Fill(box, 1), lambda box: Frame(box, 1), lambda box: Copy(box, BIG, 0)):
                self.refused(BadPlace("x1"), lambda: ~make(Box(place, 0, 0, 0)))
                self.refused(BadPlace("x0"), lambda: ~make(Box(place, place, 0, 0)))
            self.assertEqual((~Flood(0, place, 1)).y, place)

    def test_just_within_the_bound(self):
        for deed in (Flood(BIG - 1, 0, 1), Flood(-BIG, 0, 1), Flood(Place(BIG, 0, BIG), BIG, 1),
                     Copy(Box(0, 2, 0, 1), BIG - 2, 0), When(Place(2 - BIG, 0, 1 - BIG), 0, 1, [])):
            self.assertEqual(~~deed, deed)

    def test_targets_of_copies(self):
        self.refused(BadPlace("x"), lambda: ~Copy(Box(0, 2, 0, 1), BIG - 1, 0))
        self.refused(BadPlace("x"), lambda: ~Copy(Box(BIG, -BIG, 0, 1), 0, 0))
        self.refused(BadPlace("x"), lambda: ~Copy(Box(0, 1, 0, 1), BIG, 0))

    def test_in_blocks(self):
        far = Flood(BIG, 0, 1)
        box = Fill(Box(0, Place(-BIG, 0), 0, 0), 1)
        for block in (Again(0, Grow(1), far), When(0, 0, 1, [far]), When(0, 0, 1, [], [Again(1, far)])):
            self.refused(BadPlace("x"), lambda: ~block)
        self.refused(BadPlace("x0"), lambda: ~Again(2, box, far))
        self.refused(BadPlace("x0"), lambda: ~When(0, 0, 1, [box], [far]))
        self.refused(BadPlace("x"), lambda: ~When(BIG, 0, 1, [box]))


class Texts(Case):
    def test_texts(self):
        box = Box(1, from_middle(2), Place(1, 0, 1), from_right(4))
        text = "left 1 middle 2 place 1 0 1 right 4"
        self.assertEqual(str(Fill(box, 3)), f"fill {text} 3")
        self.assertEqual(str(Frame(box, 3, 12)), f"frame {text} 3 12")
        self.assertEqual(str(Frame(box, 3)), f"frame {text} 3 1")
        self.assertEqual(str(Flood(-1, from_right(), 3)), "flood left -1 right 0 3")
        self.assertEqual(str(Copy(box, 0, from_middle(-2))), f"copy {text} left 0 middle -2")
        self.assertEqual([str(Flip("across")), str(Flip("down")), str(Swap(3, 4)), str(Grow(5))],
                         ["flip across", "flip down", "swap 3 4", "grow 5"])

    def test_texts_of_blocks(self):
        self.assertEqual(str(Again(3)), "again 3\nend")
        self.assertEqual(str(Again(3, Grow(1), Swap(1, 2))), "again 3\ngrow 1\nswap 1 2\nend")
        self.assertEqual(str(When(0, from_right(1), 2, [])), "when left 0 right 1 2\nend")
        self.assertEqual(str(When(0, 0, 2, [Grow(1)])), "when left 0 left 0 2\ngrow 1\nend")
        self.assertEqual(str(When(0, 0, 2, [], [Grow(1)])), "when left 0 left 0 2\nelse\ngrow 1\nend")
        self.assertEqual(str(Again(1, When(0, 0, 2, [Grow(1)], [Again(0), Grow(2)]))),
                         "again 1\nwhen left 0 left 0 2\ngrow 1\nelse\nagain 0\nend\ngrow 2\nend\nend")
