"""Programs [7], [8]: what they count, what they refuse, how they are put together, their pictures and mirrors."""

import random

from heldfloods.boxes import Box
from heldfloods.deeds import Again, Copy, Deed, Fill, Flip, Flood, Frame, Grow, Swap, When
from heldfloods.errors import BadDeed, BadPlace, BadProgram, BadSize, NoDeed, TooMany
from heldfloods.pictures import Picture
from heldfloods.places import Place, from_middle, from_right
from heldfloods.programs import Program
from tests.helpers import BIG, VALUES, Case, is_whole, no_sizes, others
from tests.naive import Maker, paint

WHOLE = Box.whole()
THREE = Program(Grow(1), Grow(2), Grow(3))


def no_deeds():
    return others(lambda value: isinstance(value, Deed))


def texts(program):
    return [str(deed) for deed in program.deeds]


def nested(deep, deed):
    """A deed that is so deep that this one within it is the deepest."""
    for k in range(deep - 1):
        deed = Again(1, deed) if k % 2 else When(0, 0, 0, [], [deed])
    return deed


class Counted(Case):
    def test_without_blocks(self):
        program = Program(Grow(1), Flood(0, 0, 1), Flip("down"), Flood(1, 1, 1))
        self.assertEqual((program.said, program.done, program.deep, program.floods, len(program)), (4, 4, 1, 2, 4))

    def test_without_deeds(self):
        program = Program()
        self.assertEqual((program.said, program.done, program.deep, program.floods, len(program)), (0, 0, 0, 0, 0))
        self.assertEqual((program.deeds, list(program.each())), ((), []))

    def test_again(self):
        program = Program(Again(3, Grow(1), Again(2, Flood(0, 0, 1))))
        self.assertEqual((program.said, program.done, program.deep, program.floods, len(program)), (4, 9, 3, 1, 1))
        self.assertEqual(Program(Again(0, Grow(1), Grow(2))).done, 0)
        self.assertEqual(Program(Again(9)).done, 0)
        self.assertEqual((Program(Again(9)).said, Program(Again(9)).deep), (1, 1))

    def test_when(self):
        program = Program(When(0, 0, 0, [Flood(0, 0, 1), Grow(1)], [Again(4, Flood(0, 0, 1))]))
        self.assertEqual((program.said, program.done, program.deep, program.floods), (5, 7, 3, 2))
        self.assertEqual((Program(When(0, 0, 0, [])).done, Program(When(0, 0, 0, [])).deep), (1, 1))
        self.assertEqual(Program(When(0, 0, 0, [], [Grow(1)])).deep, 2)
        self.assertEqual(Program(Again(5, When(0, 0, 0, [Grow(1)]))).done, 10)

    def test_properties_and_class_values(self):
        for name in ("said", "done", "deep", "floods"):
            self.assertIsInstance(vars(Program)[name], property)
        # Its deeds are set as those of a block are, which must not run a setter of any class.
        self.assertNotIn("deeds", vars(Program))
        self.assertEqual((Program.SAID, Program.DONE, Program.DEEP), (16, 48, 4))
        self.assertIs(type(THREE.deeds), tuple)

    def test_never_changed(self):
        program = Program(Grow(1), Flood(0, 0, 2))
        for name in ("said", "done", "deep", "floods"):
            with self.assertRaises(AttributeError):
                setattr(program, name, ())
        self.assertEqual((program.deeds, program.said), ((Grow(1), Flood(0, 0, 2)), 2))

    def test_each(self):
        when = When(0, 0, 0, [Grow(1), Again(0, Grow(2))], [Grow(3)])
        program = Program(when, Grow(4))
        self.assertEqual([str(deed) for deed in program.each()], [str(deed) for deed in (*when.each(), Grow(4))])


class Refused(Case):
    def test_no_deeds(self):
        for value in no_deeds():
            self.refused(BadProgram(0), Program, value)
            self.refused(BadProgram(2), Program, Grow(1), Grow(2), value, None)
            self.refused(BadProgram(1), Program.of, [Grow(1), value])
        self.refused(BadProgram(17), Program, *[Grow(1)] * 17, None)

    def test_said(self):
        self.assertEqual(Program(*[Grow(1)] * 16).said, 16)
        self.refused(TooMany("said", 16), Program, *[Grow(1)] * 17)
        self.assertEqual(Program(Again(0, *[Grow(1)] * 15)).said, 16)
        self.refused(TooMany("said", 16), Program, Again(0, *[Grow(1)] * 16))
        self.refused(TooMany("said", 16), Program, When(0, 0, 0, [Grow(1)] * 8, [Grow(1)] * 8))

    def test_done(self):
        self.assertEqual(Program(Again(9, *[Grow(1)] * 5), *[Grow(1)] * 3).done, 48)
        self.refused(TooMany("done", 48), Program, Again(9, *[Grow(1)] * 5), *[Grow(1)] * 4)
        self.assertEqual(Program(Again(8, When(0, 0, 0, [Grow(1)] * 2, [Grow(1)] * 3))).done, 48)
        self.refused(TooMany("done", 48), Program, Again(7, Again(7, Grow(1))))
        # A When that can do only the one or the other counts both.
        block = [Again(8, Again(3, Grow(1)))]
        self.refused(TooMany("done", 48), Program, When(0, 0, 0, block, block))

    def test_deep(self):
        self.assertEqual(Program(nested(4, Grow(1))).deep, 4)
        self.assertEqual(Program(Grow(1), nested(3, Grow(1)), Again(1, Grow(1)), Grow(1)).deep, 3)
        self.refused(TooMany("deep", 4), Program, nested(5, Grow(1)), Again(1, Grow(1)), Grow(1))
        self.refused(TooMany("deep", 4), Program, nested(5, Grow(1)))
        self.refused(TooMany("deep", 4), Program, Grow(1), Again(0, nested(4, Again(0))))

    def test_in_this_order(self):
        deep = nested(5, Again(9, Again(9, Grow(1))))
        self.refused(TooMany("said", 16), Program, deep, *[Grow(1)] * 16)
        self.refused(TooMany("done", 48), Program, deep)
        self.refused(BadProgram(16), Program, *[deep] * 16, None)

    def test_of(self):
        for deeds in ([Grow(1), Grow(2)], (Grow(1), Grow(2))):
            self.assertEqual(Program.of(deeds), Program(Grow(1), Grow(2)))
        self.assertEqual(Program.of(deeds=[]), Program())
        for value in others(lambda value: isinstance(value, (list, tuple))):
            self.refused(BadProgram(0), Program.of, value)
        self.refused(TooMany("said", 16), Program.of, [Grow(1)] * 17)

    def test_later_changes_have_no_effect(self):
        deeds = [Grow(1)]
        program = Program.of(deeds)
        deeds.append(Grow(2))
        self.assertEqual(len(program), 1)


class Items(Case):
    def test_from_both_ends(self):
        for k in range(-3, 3):
            self.assertIs(THREE[k], THREE.deeds[k])
        for value in others(lambda value: is_whole(value) and -3 <= value <= 2):
            self.refused(NoDeed(value), lambda: THREE[value])
        for k in (3, -4):
            self.refused(NoDeed(k), lambda: THREE[k])
        for k in (0, -1):
            self.refused(NoDeed(k), lambda: Program()[k])

    def test_contains(self):
        program = Program(Grow(1), Again(2, Grow(3)))
        self.assertEqual([Grow(1) in program, Grow(2) in program, Grow(3) in program, Again(2, Grow(3)) in program],
                         [True, False, False, True])
        for value in VALUES:
            self.same(value in Program(Grow(2)), False)

    def test_not_iterated(self):
        with self.assertRaises(TypeError):
            list(THREE)


class PutTogether(Case):
    def test_sums(self):
        other = Program(Flip("down"))
        self.assertEqual(texts(THREE + other), ["grow 1", "grow 2", "grow 3", "flip down"])
        self.assertEqual(texts(other + THREE), ["flip down", "grow 1", "grow 2", "grow 3"])
        self.assertEqual(THREE + Flip("down"), THREE + other)
        self.assertEqual(Flip("down") + THREE, other + THREE)
        self.assertEqual((THREE + Program(), Program() + THREE), (THREE, THREE))
        self.assertEqual(len(THREE), 3)

    def test_products(self):
        self.assertEqual(texts(THREE * 2), texts(THREE) * 2)
        self.assertEqual(2 * THREE, THREE * 2)
        self.assertEqual([THREE * 0, 0 * THREE, THREE * 1, Program() * 10 ** 50],
                         [Program(), Program(), THREE, Program()])
        self.assertEqual(len(Program(Grow(1)) * 16), 16)
        self.assertEqual(len(THREE), 3)

    def test_wrong_times(self):
        for value in others(lambda value: is_whole(value) and value >= 0):
            self.refused(BadDeed("times"), lambda: THREE * value)
            self.refused(BadDeed("times"), lambda: value * THREE)

    def test_in_place_the_old_ones_stay(self):
        program = kept = THREE
        program += Flip("down")
        self.assertEqual((len(program), len(kept)), (4, 3))
        program = kept
        program += kept
        program *= 2
        self.assertEqual((len(program), len(kept), kept is THREE), (12, 3, True))
        deed = Flip("down")
        deed += THREE
        self.assertEqual(deed, Flip("down") + THREE)

    def test_too_many(self):
        long = Program(*[Grow(1)] * 16)
        for call in (lambda: long + long, lambda: long + Grow(1), lambda: Grow(1) + long, lambda: long * 2,
                     lambda: 10 ** 50 * long, lambda: THREE * 6, lambda: Program(Grow(1)) * 17):
            self.refused(TooMany("said", 16), call)
        often = Program(Again(9, Grow(1), Grow(2), Grow(3)))
        for call in (lambda: often + often, lambda: often * 2, lambda: often + Again(3, *often.deeds)):
            self.refused(TooMany("done", 48), call)
        self.refused(TooMany("deep", 4), lambda: THREE + nested(5, Grow(1)))

    def test_nothing_else_is_added(self):
        for value in (None, 1, "grow 1", [Grow(1)], Place(0, 0)):
            for call in (lambda: THREE + value, lambda: value + THREE):
                with self.assertRaises(TypeError):
                    call()

    def test_without(self):
        self.assertEqual([texts(THREE.without(k)) for k in range(3)],
                         [["grow 2", "grow 3"], ["grow 1", "grow 3"], ["grow 1", "grow 2"]])
        self.assertEqual(Program(Grow(1)).without(k=0), Program())
        for value in others(lambda value: is_whole(value) and 0 <= value <= 2) + [3, -1]:
            self.refused(NoDeed(value), THREE.without, value)
        self.refused(NoDeed(0), Program().without, 0)

    def test_exchanged(self):
        self.assertEqual(texts(THREE.exchanged(0)), ["grow 2", "grow 1", "grow 3"])
        self.assertEqual(texts(THREE.exchanged(k=1)), ["grow 1", "grow 3", "grow 2"])
        self.assertEqual(texts(THREE), ["grow 1", "grow 2", "grow 3"])
        for value in others(lambda value: is_whole(value) and 0 <= value <= 1) + [2, -1]:
            self.refused(NoDeed(value), THREE.exchanged, value)
        self.refused(NoDeed(0), Program().exchanged, 0)
        self.refused(NoDeed(0), Program(Grow(1)).exchanged, 0)

    def test_equality(self):
        self.assertTrue(Program(Grow(1), Grow(2)) == Program(Grow(1), Grow(2)))
        for other in (Program(Grow(2), Grow(1)), Program(Grow(1)), Program(), Program(Again(1, Grow(1), Grow(2)))):
            self.same(Program(Grow(1), Grow(2)) == other, False)
            self.same(Program(Grow(1), Grow(2)) != other, True)
        for value in VALUES + [THREE.deeds, list(THREE.deeds)]:
            if not isinstance(value, Program):
                self.same(THREE == value, False)

    def test_text(self):
        self.assertEqual(str(Program()), "none")
        self.assertEqual(str(Program(Grow(1), Again(2, Swap(1, 2)), Flip("down"))),
                         "grow 1\nagain 2\nswap 1 2\nend\nflip down")


class Pictures(Case):
    def test_by_the_definitions(self):
        maker = Maker(random.Random(29))
        for _ in range(150):
            program = maker.program()
            for width, height in ((1, 1), (2, 1), (1, 2), (3, 4), (6, 5), (7, 7)):
                picture = program(width, height)
                self.assertIs(type(picture), Picture)
                self.assertEqual(picture.rows, paint(program, width, height), str(program))

    def test_without_deeds(self):
        self.assertEqual(Program()(width=3, height=2).rows, ("000", "000"))

    def test_each_picture_begins_anew(self):
        program = Program(When(0, 0, 0, [Fill(WHOLE, 1)], [Fill(WHOLE, 2)]))
        self.assertEqual([program(2, 1).rows for _ in range(2)], [("11",), ("11",)])

    def test_no_sizes(self):
        for value in no_sizes(200):
            self.refused(BadSize("width"), THREE, value, None)
            self.refused(BadSize("height"), THREE, 200, value)

    def test_great_canvases(self):
        ring = Program(Frame(WHOLE, 1), Flood(from_middle(), from_middle(), 2), Again(9, Grow(1), Flip("across")),
                       Copy(Box(0, from_middle(), 0, from_middle()), from_middle(), from_middle()), Swap(1, 3))
        for width, height in ((200, 200), (199, 200), (200, 199), (199, 199)):
            self.assertEqual(ring(width, height).rows, paint(ring, width, height))

    def test_many_floods_on_a_great_canvas(self):
        doubled = [Copy(Box(0, 2 ** k, 0, 200), 2 ** k, 0) for k in range(1, 8)]
        comb = Program(Fill(Box(1, 2, 1, 200), 1), *doubled, Again(9, Flood(0, 0, 2), Flood(0, 0, 0)), Flood(1, 1, 3))
        picture = comb(200, 200)
        self.assertEqual([picture.area(colour) for colour in range(4)], [20100, 19701, 0, 199])


class Mirrors(Case):
    def test_pictures_are_flipped_across(self):
        maker = Maker(random.Random(31))
        for _ in range(150):
            program = maker.program()
            mirror = ~program
            self.assertEqual(~mirror, program)
            self.assertEqual(mirror.deeds, tuple(~deed for deed in program.deeds))
            for width, height in ((1, 1), (2, 2), (3, 1), (4, 3), (7, 5), (8, 6)):
                self.assertEqual(mirror(width, height), ~program(width, height), str(program))

    def test_beyond_the_bound(self):
        self.refused(BadPlace("x"), lambda: ~Program(Grow(1), Flood(BIG, 0, 1)))
        self.refused(BadPlace("x0"), lambda: ~Program(Fill(Box(0, Place(-BIG, 0), 0, 1), 1), Flood(BIG, 0, 1)))
        self.refused(BadPlace("x1"), lambda: ~Program(Again(1, Fill(Box(Place(-BIG, 0), 1, 0, 1), 1))))
        kept = Program(Flood(BIG, from_right(BIG), 1))
        self.assertEqual(kept.deeds, (Flood(BIG, from_right(BIG), 1),))
