"""Classes of sizes and their pairs [10]."""

import random

from heldfloods.boxes import Box
from heldfloods.claims import Covered, Held, Mirrored, NoneLeft
from heldfloods.classes import Sizes, class_of, classes, pairs
from heldfloods.deeds import Again, Fill, Flip, Flood, Frame, Grow
from heldfloods.edges import edges
from heldfloods.errors import BadClass, BadSize, TooMany
from heldfloods.places import Place, from_left, from_middle, from_right
from heldfloods.programs import Program
from tests.helpers import BIG, HUGE, VALUES, Case, is_whole, no_integers, no_sizes, others
from tests.naive import at

WHOLE = Box.whole()


def texts(found):
    return [str(one) for one in found]


def order_at(places, size):
    """How each two of some places stand to one another at a size."""
    values = [at(place, size) for place in places]
    return [(one > other) - (one < other) for one in values for other in values]


def by_sizes(places, most):
    """The classes of the sizes up to most, by a look at each size: tuples (low, high); what goes on has high None."""
    found = []
    for low in (1, 2):
        begin = low
        for size in range(low, most + 1, 2):
            if size + 2 > most:
                found.append((begin, None))
            elif order_at(places, size) != order_at(places, size + 2):
                found.append((begin, size))
                begin = size + 2
    return sorted(found)


def some_places(source, many, wide=6):
    return [Place(source.randint(-2, 4), source.randint(-wide, wide), source.randint(-2, 3)) for _ in range(many)]


class OneClass(Case):
    def test_attributes(self):
        for low, high in ((1, None), (2, None), (1, 1), (3, 9), (HUGE, HUGE), (2, 10 ** 60)):
            sizes = Sizes(low, high)
            self.assertEqual((sizes.low, sizes.high), (low, high))
        self.assertEqual((Sizes(low=4).low, Sizes(high=8, low=4).high, Sizes(5).high), (4, 8, None))

    def test_refused(self):
        for value in no_sizes():
            self.refused(BadClass("low"), Sizes, value, None)
            self.refused(BadClass("low"), Sizes, value, "x")
        for value in others(lambda value: value is None or is_whole(value) and value >= 3 and value % 2 == 1):
            self.refused(BadClass("high"), Sizes, 3, value)
        self.refused(BadClass("high"), Sizes, 3, 1)
        self.refused(BadClass("high"), Sizes, 3, 4)
        self.refused(BadClass("high"), Sizes, 2, True)

    def test_contains(self):
        for sizes, wanted in ((Sizes(3), {3, 5, 7, 9, 11}), (Sizes(4, 8), {4, 6, 8}), (Sizes(5, 5), {5})):
            for n in range(-3, 13):
                self.same(n in sizes, n in wanted)
            for value in no_integers():
                self.same(value in sizes, False)
        self.assertTrue(10 ** 60 in Sizes(2))
        self.assertFalse(10 ** 60 in Sizes(2, 10 ** 60 - 2))
        self.assertFalse(10 ** 60 in Sizes(1))

    def test_equality(self):
        apart = [Sizes(1), Sizes(2), Sizes(1, 1), Sizes(1, 3), Sizes(3)]
        for at_, one in enumerate(apart):
            for beside, other in enumerate(apart):
                self.same(one == other, at_ == beside)
            for value in VALUES:
                if not isinstance(value, Sizes):
                    self.assertFalse(one == value)
        self.assertTrue(Sizes(2, 4) == Sizes(2, 4))

    def test_texts(self):
        self.assertEqual(texts([Sizes(3, 3), Sizes(3, 9), Sizes(3), Sizes(10 ** 30, 10 ** 30 + 2)]),
                         ["3", "3..9", "3..", f"{10 ** 30}..{10 ** 30 + 2}"])


class OfPlaces(Case):
    def test_by_a_look_at_each_size(self):
        source = random.Random(61)
        for many in (1, 2, 3, 5, 9):
            for _ in range(60):
                places = some_places(source, many)
                found = list(classes(places))
                # Beyond 120 nothing changes any more: the offsets differ by 17 at most.
                self.assertEqual([(one.low, one.high) for one in found], by_sizes(places, 120), texts(places))
                self.assertEqual(texts(classes(tuple(places[::-1]))), texts(found))

    def test_each_size_in_just_one(self):
        source = random.Random(62)
        for _ in range(50):
            found = list(classes(some_places(source, 5)))
            for size in [*range(1, 50), 10 ** 30, 10 ** 30 + 1]:
                self.assertEqual(sum(size in one for one in found), 1)
            self.assertEqual([one.low for one in found], sorted(one.low for one in found))

    def test_few_places(self):
        for places in ([], (), [from_left()], [from_left(), from_left(), from_left(7)], [from_right(2), from_right(9)]):
            self.assertEqual(texts(classes(places)), ["1..", "2.."])
        self.assertEqual(texts(classes(places=[from_left(), from_right()])), ["1..", "2.."])

    def test_only_equal_at_one_size(self):
        self.assertEqual(texts(classes([from_left(4), from_right()])), ["1..3", "2", "4", "5..", "6.."])
        self.assertEqual(texts(classes([from_left(5), from_right()])), ["1..3", "2..4", "5", "6..", "7.."])
        # Place 2 -1 0 is less than left 0 at no size from 2 on, and equal at none.
        self.assertEqual(texts(classes([Place(2, -1, 0), from_left()])), ["1", "2..", "3.."])

    def test_far_out(self):
        far = 10 ** 35
        found = list(classes([from_left(far), from_right(far)]))
        self.assertEqual([(one.low, one.high) for one in found],
                         [(1, 2 * far - 1), (2, 2 * far - 2), (2 * far, 2 * far), (2 * far + 1, None),
                          (2 * far + 2, None)])
        places = [Place(1, 0, 0), Place(0, far, 0), Place(BIG, -far, 3)]
        for rest in (0, 1):
            found = [one for one in classes(places) if one.low % 2 == rest]
            for one in found:
                self.assertEqual(order_at(places, one.low), order_at(places, one.high or one.low + 10 ** 50))
            for one, behind in zip(found, found[1:]):
                self.assertEqual(behind.low, one.high + 2)
                self.assertNotEqual(order_at(places, one.low), order_at(places, behind.low))

    def test_class_of(self):
        source = random.Random(63)
        for _ in range(60):
            places = some_places(source, 4)
            found = list(classes(places))
            for size in [*range(1, 30), 10 ** 30, 10 ** 30 + 7]:
                self.same(class_of(places, size), [one for one in found if size in one][0])
        self.assertEqual(class_of(size=7, places=()), Sizes(1))
        for value in no_sizes():
            self.refused(BadSize("size"), class_of, [from_left()], value)


class Pairs(Case):
    def test_order(self):
        program = Program(Fill(Box(0, from_middle(), 3, from_right()), 1))
        widths = list(classes(edges("across", program)))
        heights = list(classes(edges("down", program)))
        found = list(pairs(program))
        self.assertEqual(len(found), len(widths) * len(heights))
        lows = [(wide.low + high.low, wide.low) for wide, high in found]
        self.assertEqual(lows, sorted(set(lows)))
        for wide, high in found:
            self.assertIn(wide, widths)
            self.assertIn(high, heights)
        self.assertTrue(all(type(pair) is tuple for pair in found))

    def test_of_programs_and_claims(self):
        one, two = Program(Fill(Box(2, 5, 0, 1), 1)), Program(Flood(from_middle(), 0, 1))
        claim = Mirrored("across") & Covered(Box(0, 1, 4, 5), 1)
        for things in ((one,), (one, two), (claim, one), (one, claim, two)):
            widths = {str(wide) for wide, _ in pairs(*things)}
            heights = {str(high) for _, high in pairs(*things)}
            self.assertEqual(widths, set(texts(classes(edges("across", *things)))))
            self.assertEqual(heights, set(texts(classes(edges("down", *things)))))

    def test_floods_are_not_looked_at(self):
        self.assertEqual(len(list(pairs(Program(), Held(3, WHOLE)))), 4)

    def test_too_many_edges(self):
        many = Program(Again(9, Grow(1)), Again(9, Grow(1)))
        self.refused(TooMany("edges", 60), lambda: list(pairs(many)))
        down = Program(*[Fill(Box(0, 1, 4 * k + 1, 4 * k + 3), 1) for k in range(14)], Frame(Box(0, 1, 70, 72), 1),
                       Flip("down"))
        self.refused(TooMany("edges", 60), lambda: list(pairs(down)))
        self.refused(TooMany("edges", 60), lambda: next(pairs(NoneLeft(1), down)))

    def test_too_many_pairs(self):
        # For k places left 2, left 4 .. there are 2 k + 4 classes.
        def lefts(across, down):
            return Program(*[Fill(Box(4 * k, 4 * k + 2, 0, 1), 1) for k in range(1, across // 2 + 1)],
                           *[Fill(Box(0, 0, 4 * k, 4 * k + 2), 1) for k in range(1, down // 2 + 1)])

        few = lefts(14, 16)
        sides = [len(list(classes(edges(axis, few)))) for axis in ("across", "down")]
        self.assertLessEqual(sides[0] * sides[1], 2000)
        self.assertEqual(len(list(pairs(few))), sides[0] * sides[1])
        many = Program(*[Fill(Box(4 * k, 4 * k + 2, 4 * k, 4 * k + 2), 1) for k in range(1, 16)])
        sides = [len(list(classes(edges(axis, many)))) for axis in ("across", "down")]
        self.assertGreater(sides[0] * sides[1], 2000)
        self.refused(TooMany("pairs", 2000), lambda: list(pairs(many)))
        self.refused(TooMany("edges", 60), lambda: list(pairs(many, lefts(0, 0) + Again(9, Grow(1), Grow(2)))))

    def test_just_two_thousand(self):
        # Widths with 50 classes, heights with 40.
        wide, high = self.with_classes(50), self.with_classes(40)
        exact = Program(Fill(Box(0, 1, 0, 1), 1))
        things = (exact, *[Covered(Box(k, k, 0, 0), 1) for k in wide], *[Covered(Box(0, 0, k, k), 1) for k in high])
        self.assertEqual(len(list(pairs(*things))), 2000)
        more = (*things, Covered(Box(0, 0, 100, 100), 1))
        self.refused(TooMany("pairs", 2000), lambda: list(pairs(*more)))

    def with_classes(self, many):
        """Lefts that make, with left 0, left 1 and right 0, so many classes."""
        lefts = []
        while True:
            found = len(list(classes([from_left(), from_left(1), from_right(), *[from_left(k) for k in lefts]])))
            if found >= many:
                self.assertEqual(found, many)
                return lefts
            lefts.append(2 * len(lefts) + 2 if many - found > 1 else lefts[-1] + 1)
