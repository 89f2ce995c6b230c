"""Areas [16]: how many pixels have a colour, as one sum for all canvases of a pair."""

import random
import time

from heldfloods.areas import Sum, area_sum, area_sums
from heldfloods.boxes import Box
from heldfloods.classes import Sizes, classes, pairs
from heldfloods.deeds import Again, Fill, Flood, Frame, Grow
from heldfloods.edges import edges
from heldfloods.errors import BadClaim, BadColour, BadProgram, BadText, NoClass, TooMany
from heldfloods.places import from_left, from_middle, from_right
from heldfloods.programs import Program
from heldfloods.strips import Strips
from tests.helpers import HUGE, VALUES, Case, no_colours, no_integers, no_programs, others
from tests.naive import Maker, paint

WHOLE = Box.whole()
RING = Program(Frame(WHOLE, 1))
MANY_EDGES = Program(Again(9, Grow(1)), Again(9, Grow(1)))
MANY_PAIRS = Program(*[Fill(Box(4 * k, 4 * k + 2, 4 * k, 4 * k + 2), 1) for k in range(1, 16)])


def some_sums(seed, many):
    source = random.Random(seed)
    numbers = [0, 0, 0, 1, -1, 2, -2, 10, -10, 101, -37, 10 ** 40, -10 ** 40, HUGE]
    return [Sum(*[source.choice(numbers) for _ in range(4)]) for _ in range(many)]


def four(one):
    return one.a, one.b, one.c, one.d


class Sums(Case):
    def test_attributes(self):
        self.assertEqual(four(Sum(d=4, c=3, b=2, a=1)), (1, 2, 3, 4))
        for at, part in enumerate("abcd"):
            for value in no_integers():
                numbers = [1, 2, 3, 4]
                numbers[at:] = [value] + [None] * (3 - at)
                self.refused(BadClaim(part), Sum, *numbers)

    def test_values(self):
        sizes = [1, 2, 3, 4, 7, 10, 10 ** 40, 10 ** 40 - 1]
        for one in some_sums(81, 60):
            for width in sizes:
                for height in sizes:
                    m, n = width // 2, height // 2
                    wanted = one.a * m * n + one.b * m + one.c * n + one.d
                    self.same(one(width, height), wanted)
                    self.same(one(height=height, width=width), wanted)

    def test_arithmetic(self):
        found = some_sums(82, 40)
        for one, other in zip(found, found[1:]):
            self.assertEqual(four(one + other), tuple(a + b for a, b in zip(four(one), four(other))))
            self.assertEqual(four(one - other), tuple(a - b for a, b in zip(four(one), four(other))))
            self.assertFalse(one - one)
            for k in (0, 1, -1, 3, 10 ** 40):
                wanted = tuple(k * a for a in four(one))
                self.assertEqual((four(k * one), four(one * k)), (wanted, wanted))
        self.assertEqual((four(found[0]), four(found[1])), (four(some_sums(82, 1)[0]), four(some_sums(82, 2)[1])))

    def test_arithmetic_with_others(self):
        one = Sum(1, 2, 3, 4)
        for value in others(lambda value: isinstance(value, Sum)):
            for call in (lambda: one + value, lambda: value + one, lambda: one - value, lambda: value - one):
                self.assertRaises(TypeError, call)
        for value in [value for value in no_integers() if not isinstance(value, Program)] + [one]:
            for call in (lambda: one * value, lambda: value * one):
                self.assertRaises(TypeError, call)

    def test_equality_and_truth(self):
        rows = [(0, 0, 0, 0), (1, 0, 0, 0), (0, 1, 0, 0), (0, 0, 1, 0), (0, 0, 0, 1), (-1, 0, 0, 0), (1, 1, 1, 1)]
        for row in rows:
            self.same(bool(Sum(*row)), row != (0, 0, 0, 0))
            for beside in rows:
                self.same(Sum(*row) == Sum(*beside), row == beside)
            for value in others(lambda value: isinstance(value, Sum)) + [row, str(Sum(*row))]:
                self.same(Sum(*row) == value, False)

    def test_text(self):
        for row, text in (((0, 0, 0, 0), "0"), ((1, 1, 1, 1), "mn + m + n + 1"), ((-1, -1, -1, -1), "-mn - m - n - 1"),
                          ((4, -4, 2, -2), "4mn - 4m + 2n - 2"), ((0, 0, -1, 0), "-n"), ((0, -10, 0, 1), "-10m + 1"),
                          ((0, 0, 0, -7), "-7"), ((0, 1, 0, 0), "m"), ((11, 0, 0, -1), "11mn - 1"),
                          ((0, 0, 1, -2), "n - 2")):
            self.same(str(Sum(*row)), text)
            self.assertEqual(four(Sum.read(text)), row)
        for one in some_sums(83, 80):
            self.assertEqual(Sum.read(str(one)), one)

    def test_other_texts(self):
        source = random.Random(84)
        texts = ["+1", "1m", "-1m", "01", "00", "-0", "0m", "m + 0", "0 + m", "m+n", "m  + n", " m", "m ", "m + n\n",
                 "n + m",
                 "1 + m", "m + m", "1 + 1", "nm", "2nm", "2 m", "m * 2", "- m", "m +", "+ m", "m + -n", "m - -n", "M",
                 "mnn",
                 "m2", "--m", "-", "", "m +n", "x", "mn + mn", "mm", "m + n + ", "1_0", "\n0", "0mn + m", "-mn + 0",
                 "1mn", "m + 1n", "m - 01", "m , n", "m / n", "-+m"]
        for text in texts:
            self.refused(BadText(0, 0), Sum.read, text)
        for value in others(lambda value: value in ("0", "1") and type(value) is str):
            self.refused(BadText(0, 0), Sum.read, value)
        for one in some_sums(85, 60):
            text = str(one)
            at = source.randrange(len(text))
            for changed in (text[:at] + text[at + 1:], text[:at] + source.choice("mn+- 01") + text[at:]):
                try:
                    self.assertEqual(str(Sum.read(changed)), changed)
                except BadText as error:
                    self.assertEqual((error.line, error.word), (0, 0))


class Areas(Case):
    def look_at(self, program, colour, found):
        """That each sum counts the pixels on some canvases of its pair."""
        for wide, high, told in found:
            if wide.high == wide.low:
                self.assertEqual((told.a, told.b), (0, 0))
            if high.high == high.low:
                self.assertEqual((told.a, told.c), (0, 0))
            for width in (wide.low, wide.low + 2, wide.low + 6):
                for height in (high.low, high.low + 2):
                    if width in wide and height in high and width * height < 250:
                        count = "".join(paint(program, width, height)).count(str(colour))
                        self.assertEqual(told(width, height), count, (str(program), width, height))

    def test_beside_pixels(self):
        source = random.Random(86)
        many = 0
        while many < 25:
            program = Maker(source).program() + Maker(source).flood()
            try:
                if len(list(pairs(program))) > 300:
                    continue
            except TooMany:
                continue
            many += 1
            colour = source.choice([0, 1, 2, 3])
            found = list(area_sums(program, colour))
            self.assertEqual([(wide, high) for wide, high, _ in found], list(pairs(program)))
            self.look_at(program, colour, found[:40])
            for wide, high, told in source.sample(found, min(12, len(found))):
                self.same(area_sum(program, colour, wide, high), told)
                self.same(area_sum(program, colour, Sizes(wide.low, wide.high), Sizes(high.low, high.high)), told)

    def test_far_canvases(self):
        source = random.Random(87)
        many = 0
        while many < 40:
            program = Maker(source).program()
            try:
                found = list(area_sums(program, 1))
            except TooMany:
                continue
            many += 1
            for wide, high, told in found[-4:]:
                width, height = (one.low + 2 * source.choice([0, 1, 50, 10 ** 30]) if one.high is None else one.low
                                 for one in (wide, high))
                self.assertEqual(told(width, height), Strips(program, width, height).area(1))

    def test_all_colours_together(self):
        program = Program(Frame(WHOLE, 4), Fill(Box(2, from_middle(), 1, from_right(2)), 7), Flood(from_middle(), 1, 9))
        found = [list(area_sums(program, colour)) for colour in range(10)]
        for rows in zip(*found):
            total = Sum(0, 0, 0, 0)
            for _, _, told in rows:
                total = total + told
            wide, high = rows[0][:2]
            e, f = wide.low % 2, high.low % 2
            m, n = (wide.low // 2 if wide.high == wide.low else None), (high.low // 2 if high.high == high.low
                                                                        else None)
            whole = (4 if m is None and n is None else 0,
                     0 if m is not None else 2 * (f if n is None else high.low),
                     0 if n is not None else 2 * (e if m is None else wide.low),
                     (e if m is None else wide.low) * (f if n is None else high.low))
            self.assertEqual(four(total), whole)

    def test_rings(self):
        even, odd = Sizes(4), Sizes(3)
        self.assertEqual(str(area_sum(RING, 1, even, odd)), "4m + 4n - 2")
        self.assertEqual(str(area_sum(program=RING, colour=0, widths=odd, heights=odd)), "4mn - 2m - 2n + 1")
        self.assertEqual(str(area_sum(RING, 1, Sizes(1, 1), Sizes(2, 2))), "2")
        self.assertEqual(str(area_sum(RING, 1, even, Sizes(1, 1))), "2m")
        self.assertEqual(str(area_sum(RING, 7, even, odd)), "0")
        self.assertEqual(area_sum(RING, 0, even, even)(10 ** 40, 10 ** 40), (10 ** 40 - 2) ** 2)

    def test_one_size_of_a_longer_class(self):
        # The class 2..8 has more than one size, so its sum has m in it.
        program = Program(Fill(Box(0, 9, 0, from_right()), 1))
        told = {(str(wide), str(high)): str(one) for wide, high, one in area_sums(program, 1)}
        self.assertEqual(told, {("1..7", "1.."): "4mn + 2m + 2n + 1", ("1..7", "2.."): "4mn + 2n",
                                ("2..8", "1.."): "4mn + 2m", ("2..8", "2.."): "4mn",
                                ("9", "1.."): "18n + 9", ("9", "2.."): "18n",
                                ("10..", "1.."): "18n + 9", ("10..", "2.."): "18n",
                                ("11..", "1.."): "18n + 9", ("11..", "2.."): "18n"})

    def test_mirrored(self):
        source = random.Random(88)
        many = 0
        while many < 25:
            program = Maker(source).program()
            try:
                found = list(area_sums(program, 2))
                turned = {(str(wide), str(high)): told for wide, high, told in area_sums(~program, 2)}
            except TooMany:
                continue
            many += 1
            self.assertEqual(len(turned), len(found))
            for wide, high, told in found:
                self.assertEqual(turned[str(wide), str(high)], told)


class Refused(Case):
    def calls(self):
        return (lambda program, colour: area_sum(program, colour, None, None),
                lambda program, colour: next(area_sums(program, colour)))

    def test_programs_and_colours(self):
        for call in self.calls():
            for value in no_programs():
                self.refused(BadProgram(0), call, value, None)
            for value in no_colours():
                self.refused(BadColour(value), call, MANY_EDGES, value)
            self.refused(TooMany("edges", 60), call, MANY_EDGES, 1)
            self.refused(TooMany("pairs", 2000), call, MANY_PAIRS, 1)

    def test_classes(self):
        right = list(classes(edges("across", RING)))
        strange = [Sizes(4, 4), Sizes(5), Sizes(1), Sizes(2), Sizes(3, 5), Sizes(6), "4..", (4, None), *VALUES]
        for value in strange:
            if value not in right:
                self.refused(NoClass(value), area_sum, RING, 1, value, None)
                for wide in right:
                    self.refused(NoClass(value), area_sum, RING, 1, wide, value)
        for wide in right:
            for high in right:
                self.assertIsInstance(area_sum(RING, 1, wide, high), Sum)

    def test_classes_of_an_axis(self):
        program = Program(Fill(Box(2, 3, 0, from_right()), 1))
        wide = list(classes([from_left(), from_right(), from_left(2), from_left(3)]))[-1]
        high = Sizes(1)
        self.assertEqual(str(area_sum(program, 1, wide, high)), "2n + 1")
        self.refused(NoClass(high), area_sum, program, 1, high, high)
        self.refused(NoClass(wide), area_sum, program, 1, wide, wide)


class Quick(Case):
    def test_many_pairs(self):
        program = Program(*[Fill(Box(3 * k + 1, from_right(2 * k + 2), 2 * k + 1, from_right(k + 1)), k % 4 + 1)
                            for k in range(9)], Again(3, Flood(0, 0, 5), Flood(from_right(1), 0, 6)))
        many = len(list(pairs(program)))
        self.assertGreater(many, 1200)
        begun = time.process_time()
        self.assertEqual(len(list(area_sums(program, 1))), many)
        self.assertLess(time.process_time() - begun, 5)
