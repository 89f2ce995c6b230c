"""The examples of the document, word by word."""

from heldfloods.alike import alike, needless, settled, trimmed, within
from heldfloods.areas import Sum, area_sum
from heldfloods.boxes import Box
from heldfloods.canvases import Canvas
from heldfloods.claims import ColourAt, Covered, Held, NoneLeft
from heldfloods.classes import Sizes, class_of, classes, pairs
from heldfloods.deeds import Again, Boxed, Coloured, Copy, Fill, Flip, Flood, Frame, Grow, Pointed, When
from heldfloods.desk import Desk
from heldfloods.edges import edges
from heldfloods.errors import (BadPicture, BadPixel, BadPlace, BadText, Fails, Gap, NoClass, NoDeed, NoFlood, TooMany,
                               Unlike)
from heldfloods.floods import leak, need_held, reach
from heldfloods.judge import failing, judge, safe_from
from heldfloods.lookers import is_cover, shows_leak, shows_verdict
from heldfloods.pictures import Picture
from heldfloods.places import Place, first_beyond, from_left, from_middle, from_right
from heldfloods.player import frames, play, regions_at
from heldfloods.programs import Program
from heldfloods.reader import read_claim, read_paper, read_program
from heldfloods.strips import Strips
from heldfloods.texts import program_text
from heldfloods.walls import fewest
from tests.helpers import Case


RING = Program(Frame(Box.whole(), 1), Flood(from_middle(), from_middle(), 2))


class Examples(Case):
    def test_places(self):
        self.assertEqual(
            [from_left(2)(5), from_right(2)(5), from_middle()(5), (~from_middle())(5), str(~from_left(3)),
             str(~from_middle()), str(1 + from_right(2))],
            [2, 3, 2, 3, 'right 3', 'place 1 0 1', 'right 1'])
        self.assertEqual(
            [from_left(2) <= from_right(2), from_left() <= from_middle(), from_middle() < from_right(),
             first_beyond(from_left(2), from_right(2)), first_beyond(from_middle(3), from_right())],
            [False, True, True, 1, 1])
        self.refused(BadText(0, 1), Place.read, "right 02")

    def test_pictures(self):
        picture = Picture(["0110", "0010", "1000"])
        self.assertEqual(
            [picture[2, 1], 2 in picture, picture.area(1), picture.region(2, 0), picture.way(1, 0, 2, 1),
             picture.way(1, 0, 0, 2)],
            [1, False, 4, ((1, 0), (2, 0), (2, 1)), ((1, 0), (2, 0), (2, 1)), None])
        other = Picture(("0220", "0010", "0000"))
        self.assertEqual(
            [(picture | other) == picture, (other | picture).rows, (picture & other).rows, (picture ^ other).rows],
            [True, ('0220', '0010', '1000'), ('0000', '0010', '0000'), ('0110', '0000', '1000')])
        self.assertEqual(
            [other <= picture, picture & other < picture, str(~picture), picture.flipped("down").rows],
            [False, True, '0110\n0100\n0001', ('1000', '0010', '0110')])
        self.refused(BadPixel(4, 0), lambda: picture[4, 0])
        self.refused(BadPicture(1), Picture, ["01", "012"])
        self.refused(BadText(1, 0), Picture.read, "01\n2")

    def test_canvases(self):
        canvas = Canvas(4, 3)
        canvas.fill(1, 9, -2, 1, 1)
        canvas[2, 1] = 1
        self.assertEqual([canvas.flood(3, 0, 5), canvas.shown.rows, canvas.flood(4, 0, 1)],
                         [4, ('0555', '0050', '0000'), 0])
        self.assertEqual([canvas.tried(lambda same: same.flood(0, 0, 7)), canvas.shown.area(7)], [8, 0])
        canvas |= Picture(["0000", "0002", "3000"])
        self.assertEqual([str(canvas.shown), canvas[3, 1]], ['0555\n0052\n3000', 2])

        def put():
            canvas[0, 3] = 10

        def show():
            canvas.shown = Picture(["0000"])

        self.refused(BadPixel(0, 3), put)
        self.refused(Unlike(), show)

    def test_boxes(self):
        box = Box(0, from_left(2), 0, from_right())
        self.assertEqual([box(5, 3), (~box)(5, 3), Box.inside(1)(5, 3), ~~box == box, Box.whole() == Box.inside(0)],
                         [(0, 2, 0, 3), (3, 5, 0, 3), (1, 4, 1, 2), True, True])

    def test_deeds(self):
        box = Box(0, from_left(2), 0, from_right())
        copy = Copy(box, 1, 0)
        self.assertEqual(
            [(~copy).x(3), (~copy).box(3, 1), isinstance(copy, Boxed), isinstance(copy, Pointed),
             isinstance(copy, Coloured)],
            [0, (1, 3, 0, 1), True, True, False])
        canvas = Canvas(5, 4)
        self.assertIsNone(Frame(Box.whole(), 1).on(canvas))
        self.assertIsNone(Flood(from_middle(), from_middle(), 2).on(canvas))
        self.assertEqual(str(canvas.shown), '11111\n12221\n12221\n11111')
        self.assertIsNone(When(0, 0, 1, [Fill(Box(0, 1, 0, 1), 3), Flip("across")], [Grow(1)]).on(canvas))
        self.assertEqual(
            [canvas[4, 0], canvas[0, 0], len(list(Again(2, Again(0), Grow(1)).each())),
             str(Flood(0, from_right(1), 7))],
            [3, 1, 3, 'flood left 0 right 1 7'])
        self.assertEqual(str(When(0, 0, 1, [Grow(2)])), 'when left 0 left 0 1\ngrow 2\nend')
        self.refused(BadPlace('x'), When, None, 0, 12, 7)

    def test_programs(self):
        ring = RING
        self.assertEqual(
            [str(ring(4, 3)), str(ring(2, 2)), ring.floods, len(ring), Flip("down") in ring, (ring * 2).done],
            ['1111\n1221\n1111', '22\n22', 1, 2, False, 4])
        both = Flip("down") + ring
        both += Flip("across")
        self.assertEqual(
            [len(both), both.without(0)[0] == ring[0], both.exchanged(0)[1] == both[0], both[-1] == Flip("across")],
            [4, True, True, True])
        when = Program(When(0, 0, 0, ring.deeds, [Grow(1)]), Again(3, *ring.deeds))
        self.assertEqual([when.said, when.done, when.deep, when.floods, ~~when == when], [7, 10, 2, 2, True])
        self.refused(TooMany('said', 16), lambda: ring * 9)
        self.refused(NoDeed(1), ring.exchanged, 1)

    def test_player(self):
        program = Program(Frame(Box(0, from_right(), 0, from_right()), 1),
                          Again(2, Flood(from_middle(), from_middle(), 2), Flip("down")))
        self.assertEqual(
            [play(program, Canvas(3, 3)), [one.rows for one in frames(program, 2, 1)]],
            [5, [('00',), ('11',), ('22',), ('22',), ('22',), ('22',)]])
        self.assertEqual([regions_at(program, 3, 3, 0), regions_at(program, 1, 1, 0)],
                         [[((1, 1),), ((1, 1),)], [((0, 0),), ((0, 0),)]])
        self.refused(NoFlood(1), regions_at, program, 3, 3, 1)

    def test_edges(self):
        fill = Program(Fill(Box(2, from_right(2), 0, from_right()), 1), Flip("across"))
        self.assertEqual([str(place) for place in edges("across", fill)], ['left 0', 'left 2', 'right 2', 'right 0'])
        copy = Program(Copy(Box(0, 2, 0, 1), from_right(1), 0))
        self.assertEqual([str(place) for place in edges("across", copy)],
                         ['left 0', 'left 2', 'right 1', 'right 0', 'right -1', 'place 4 -1 2'])

    def test_strips(self):
        great = Strips(RING, 10 ** 30, 3)
        self.assertEqual(
            [great.columns == (0, 1, 5 * 10 ** 29, 5 * 10 ** 29 + 1, 10 ** 30 - 1, 10 ** 30), great.rows],
            [True, (0, 1, 2, 3)])
        self.assertEqual(
            [great[7, 1], great.area(2) == 10 ** 30 - 2, great.regions(0), 0 in great,
             Strips(RING, 4, 3).picture() == RING(4, 3)],
            [2, True, [((1, 1), (2, 1), (3, 1))], False, True])
        self.refused(BadPixel(5, 0), great.colour_at, 5, 0)
        self.refused(NoFlood(1), great.regions, 1)

    def test_claims(self):
        corner, inside = ColourAt(0, 0, 1), Held(0, Box(1, from_right(1), 1, from_right(1)))
        self.assertEqual([corner.holds(RING, 3, 3), corner.fault(RING, 2, 5), inside.holds(RING, 4, 3),
                          inside.fault(RING, 2, 2)], [True, (0, 0), True, (0, 0)])
        self.assertEqual(
            [(corner & inside).holds(RING, 10 ** 30, 3), (~corner).fault(RING, 3, 3), ~~corner == corner,
             len(list((corner | ~inside).singles()))],
            [True, None, True, 2])
        self.assertEqual(str(corner & ~NoneLeft(2)), 'both colour left 0 left 0 1 not none 2')
        self.refused(NoFlood(1), Held(1, Box(0, 1, 0, 1)).holds, RING, 3, 3)

    def test_classes(self):
        self.assertEqual(
            [str(one) for one in classes([from_left(), from_right(), from_left(2), from_right(2)])],
            ['1', '2', '3', '4', '5..', '6..'])
        self.assertEqual(
            [str(class_of([from_left(), from_middle(), from_right()], n)) for n in (1, 2, 3, 10 ** 30)],
            ['1', '2..', '3..', '2..'])
        self.assertEqual(len([pair for pair in pairs(Program(Fill(Box(0, from_middle(), 0, from_right()), 1)))]), 6)

    def test_judge(self):
        program = Program(Frame(Box(0, from_right(), 0, from_right()), 1), Flood(from_middle(), from_middle(), 2))
        verdict = judge(program, NoneLeft(2))
        self.assertEqual([bool(verdict), verdict.paper, verdict.pixel, safe_from(program, ColourAt(0, 0, 1))],
                         [False, ('no', 1, 1), (0, 0), 3])
        self.assertEqual(
            [bool(judge(program, ~Covered(Box(0, 1, 0, 1), 0))),
             [(str(w), str(h)) for w, h in failing(program, ColourAt(0, 0, 1))][:2]],
            [True, [('1', '1'), ('1', '2')]])

    def test_alike(self):
        whole = Box(0, from_right(), 0, from_right())
        white = Program(Fill(whole, 1))
        copy = Copy(Box(0, 2, 0, from_right()), from_right(2), 0)
        first = white + Fill(whole, 2) + Fill(Box(0, 2, 0, from_right()), 1) + copy
        second = white + Fill(Box(2, from_right(2), 0, from_right()), 2)
        self.assertEqual(
            [bool(alike(first, second)), needless(first), len(trimmed(first)), bool(settled(second)),
             bool(within(white, second))],
            [True, (0,), 3, True, False])
        third = first.without(3) + Copy(Box(0, 3, 0, from_right()), from_right(3), 0)
        found = alike(third, second)
        self.assertEqual([found.paper, found.pixel], [('no', 3, 1), (2, 0)])

    def test_floods(self):
        shut = Program(Fill(Box(3, 4, 0, from_right()), 1), Fill(Box(3, 4, 1, 2), 0), Flood(0, 0, 2))
        found = leak(shut, 0, Box(0, 3, 0, from_right()))
        self.assertEqual(
            [found.width, found.height, found.gap, len(found), leak(shut, 0, Box(0, from_right(), 0, from_right()))],
            [4, 2, (3, 1), 5, None])
        self.assertEqual([reach(shut, 0, 9, 1), reach(shut, 0, 4, 2), reach(shut, 0, 10 ** 30, 2)],
                         [(0, 3, 0, 1), (0, 4, 0, 2), (0, 10 ** 30, 0, 2)])
        with self.assertRaises(Fails) as caught:
            need_held(shut, 0, Box(1, from_right(1), 1, from_right(1)))
        self.assertEqual(vars(caught.exception), {"width": 1, "height": 1})
        self.assertEqual((type(caught.exception.__cause__), vars(caught.exception.__cause__)), (Gap, {"x": 0, "y": 0}))

    def test_fewest(self):
        twice = Program(Fill(Box(3, 4, 0, from_right()), 1), Fill(Box(5, 6, 0, from_right()), 1), Flood(0, 0, 2))
        found = fewest(twice, [0, 1], Held(0, Box(0, 6, 0, from_right())))
        self.assertEqual([found.kept, [(choice, no.paper, no.pixel) for choice, no in found.reasons]],
                         [(0,), [((), ('no', 7, 1), (6, 0))]])
        self.refused(NoDeed(2), fewest, twice, [1, 2], NoneLeft(3))

    def test_areas(self):
        ring = Program(Frame(Box(0, from_right(), 0, from_right()), 1))
        even, odd = Sizes(4), Sizes(3)
        self.assertEqual(
            [str(area_sum(ring, 1, even, even)), str(area_sum(ring, 0, odd, even)),
             str(area_sum(ring, 1, Sizes(2, 2), odd))],
            ['4m + 4n - 4', '4mn - 4m - 2n + 2', '4n + 2'])
        self.assertEqual(
            [area_sum(ring, 1, even, even)(10, 4), str(Sum(1, -1, 0, 3) - Sum(0, 0, 0, 3)), str(Sum(0, 0, 0, 0)),
             Sum.read("-mn + 2n") == Sum(-1, 0, 2, 0)],
            [24, 'mn - m', '0', True])
        self.refused(NoClass(4), area_sum, ring, 1, 4, even)

    def test_lookers(self):
        whole = Box(0, from_right(), 0, from_right())
        self.assertEqual(
            [is_cover([from_left(), from_right()], ((1, None), (2, None))),
             is_cover([from_left(2), from_right()], ((1, None), (2, None)))],
            [True, False])
        program = Program(Frame(whole, 1), Flood(from_middle(), from_middle(), 2))
        self.assertEqual(
            [shows_verdict(program, NoneLeft(2), ("no", 5, 4)), shows_verdict(program, NoneLeft(2), ("no", 0, 4))],
            [True, False])
        box = Box(1, from_right(), 0, from_right())
        self.assertEqual(
            [shows_leak(program, 0, box, 2, 1, ((1, 0), (0, 0))), shows_leak(program, 0, box, 3, 3, ((1, 1),))],
            [True, False])

    def test_texts(self):
        self.same(program_text(Program(Again(2, Grow(1)), Fill(Box(2, from_right(2), 0, from_middle(1)), 3))),
                  'again 2\ngrow 1\nend\nfill left 2 right 2 left 0 middle 1 3')
        self.assertTrue(read_claim("both held 0 left 0 middle 1 left 0 right 0 not none 3")
                        == Held(0, Box(0, from_middle(1), 0, from_right())) & ~NoneLeft(3))
        self.same(read_paper("yes 1 2.. 3.. and 1.. 2.."),
                  ('yes', ((1, 1), (2, None), (3, None)), ((1, None), (2, None))))
        self.refused(BadText(0, 2), read_program, "grow 1 ")
        self.refused(BadText(2, 0), read_program, "again 2\ngrow 1")
        self.refused(BadText(0, 3), read_program, "flood left 0 place 0 3 0 1")

    def test_desk(self):
        desk = Desk()
        self.assertEqual(
            desk.run("program frame left 0 right 0 left 0 right 0 1 1", "add flood middle 0 middle 0 2", "paint 4 3",
                     "claim in held 0 left 1 right 1 left 1 right 1", "judge in", "safe in"),
            ['ok', 'ok', '1111 / 1221 / 1111', 'ok', 'no 1 1', '3'])
        self.assertEqual(
            desk.run("leak 0 left 1 right 1 left 1 right 1", "drop 0", "show", "undo", "undo", "show"),
            ['1 1 0,0', 'ok', 'flood middle 0 middle 0 2', 'ok', 'ok',
             'frame left 0 right 0 left 0 right 0 1 1 ; flood middle 0 middle 0 2'])
