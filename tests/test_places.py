"""Places [4]: at sizes, sums, mirrors, orders and texts."""

from itertools import product

from heldfloods.errors import BadPlace, BadSize, BadText
from heldfloods.places import Place, first_beyond, from_left, from_middle, from_right
from tests.helpers import BIG, HUGE, VALUES, Case, no_integers, no_sizes
from tests.naive import at

NAMED = {"left": from_left, "right": from_right, "middle": from_middle}
SMALL = [Place(*parts) for parts in product(range(-1, 4), range(-4, 5), range(-2, 3))]
FEW = [Place(*parts) for parts in product((-1, 0, 1, 2, 3), (-3, -1, 0, 2), (-1, 0, 1, 2))]


def parts(place):
    return place.slope, place.offset, place.odd


class Made(Case):
    def test_parts(self):
        place = Place(3, -4, 5)
        self.assertEqual(parts(place), (3, -4, 5))
        self.assertEqual(parts(Place(1, 2)), (1, 2, 0))
        self.assertEqual(parts(Place(odd=7, offset=8, slope=9)), (9, 8, 7))
        self.assertEqual(parts(Place(HUGE, -HUGE, HUGE)), (HUGE, -HUGE, HUGE))

    def test_parts_are_properties(self):
        for name in ("slope", "offset", "odd"):
            self.assertIsInstance(vars(Place)[name], property)

    def test_first_wrong_part(self):
        for value in no_integers():
            self.refused(BadPlace("slope"), Place, value, None, None)
            self.refused(BadPlace("slope"), Place, value, 0)
            self.refused(BadPlace("offset"), Place, 1, value, "x")
            self.refused(BadPlace("odd"), Place, 1, 0, value)

    def test_sorts(self):
        for k in (-HUGE, -3, 0, 1, 12, BIG, HUGE):
            self.assertEqual(parts(from_left(k)), (0, k, 0))
            self.assertEqual(parts(from_right(k)), (2, -k, 1))
            self.assertEqual(parts(from_middle(k)), (1, k, 0))
            self.assertEqual(from_right(k=k), from_right(k))
        self.assertEqual([parts(make()) for make in NAMED.values()], [(0, 0, 0), (2, 0, 1), (1, 0, 0)])

    def test_sorts_refused(self):
        for make in NAMED.values():
            for value in no_integers():
                self.refused(BadPlace("offset"), make, value)

    def test_equality(self):
        for one, other in product(FEW, FEW):
            self.same(one == other, parts(one) == parts(other))
            self.same(one != other, parts(one) != parts(other))
        # Equal at all odd sizes, and yet unlike.
        self.assertFalse(Place(0, 1, 0) == Place(0, 0, 1))
        for value in VALUES:
            if not isinstance(value, Place):
                self.same(Place(0, 1) == value, False)
        self.assertFalse(Place(1, 2, 3) == (1, 2, 3))


class AtSizes(Case):
    def test_by_the_formula(self):
        for place in SMALL:
            for size in range(1, 14):
                self.same(place(size), at(place, size))

    def test_sorts(self):
        for k in (-2, 0, 5):
            for size in (1, 2, 3, 4, 10 ** 40, 10 ** 40 + 1):
                self.assertEqual(from_left(k)(size), k)
                self.assertEqual(from_right(k)(size), size - k)
                self.assertEqual(from_middle(k)(size), size // 2 + k)

    def test_by_name(self):
        self.assertEqual(Place(1, 1, 1)(size=5), 4)

    def test_no_size(self):
        for value in no_sizes():
            self.refused(BadSize("size"), Place(0, 1), value)
        self.refused(BadSize("size"), from_right(), 0)


class Sums(Case):
    def test_sums_and_differences(self):
        for one, other in product(FEW, FEW):
            self.assertEqual(parts(one + other), tuple(a + b for a, b in zip(parts(one), parts(other))))
            self.assertEqual(parts(one - other), tuple(a - b for a, b in zip(parts(one), parts(other))))

    def test_integers(self):
        place = Place(3, 4, 5)
        self.assertEqual(parts(place + 7), (3, 11, 5))
        self.assertEqual(parts(-7 + place), (3, -3, 5))
        self.assertEqual(parts(place - 7), (3, -3, 5))
        self.assertEqual(parts(HUGE + place), (3, 4 + HUGE, 5))

    def test_nothing_that_took_part_is_changed(self):
        one, other = Place(1, 2, 3), Place(4, 5, 6)
        kept = one
        one + other, one - other, 1 + one, one + 1, one - 1, ~one, one <= other
        self.assertEqual((parts(one), parts(other)), ((1, 2, 3), (4, 5, 6)))
        one += other
        self.assertEqual((parts(kept), parts(one)), ((1, 2, 3), (5, 7, 9)))

    def test_nothing_else_is_added(self):
        for value in (None, True, "1", [1], (1, 2, 3), {}):
            for call in (lambda: Place(0, 0) + value, lambda: value + Place(0, 0), lambda: Place(0, 0) - value):
                with self.assertRaises(TypeError):
                    call()

    def test_mirrors(self):
        for place in SMALL:
            self.assertEqual(parts(~place), (2 - place.slope, -place.offset, 1 - place.odd))
            self.assertEqual(~~place, place)
            for size in (1, 2, 3, 8, 9):
                self.assertEqual((~place)(size), size - place(size))
        self.assertEqual(~from_left(5), from_right(5))
        self.assertEqual([(~from_middle())(n) - from_middle()(n) for n in (1, 2, 3, 4)], [1, 0, 1, 0])


class Orders(Case):
    def test_by_all_sizes(self):
        for one, other in product(FEW, FEW):
            pairs = [(at(one, n), at(other, n)) for n in range(1, 40)]
            self.same(one <= other, all(a <= b for a, b in pairs))
            self.same(one < other, all(a < b for a, b in pairs))
            self.same(one >= other, all(a >= b for a, b in pairs))
            self.same(one > other, all(a > b for a, b in pairs))
            beyond = [n for n in range(1, 40) if at(one, n) > at(other, n)]
            self.same(first_beyond(one, other), beyond[0] if beyond else None)

    def test_in_no_order(self):
        one, other = from_left(2), from_right(2)
        self.assertEqual([one <= other, one < other, one >= other, one > other], [False] * 4)

    def test_far_sizes(self):
        self.assertEqual(first_beyond(from_right(), from_left(10 ** 50)), 10 ** 50 + 1)
        self.assertEqual(first_beyond(from_middle(), from_left(10 ** 50)), 2 * 10 ** 50 + 2)
        self.assertEqual(first_beyond(Place(2, 0, 0), from_left(10 ** 50)), 10 ** 50 + 2)
        self.assertEqual(first_beyond(Place(1, -HUGE, HUGE), from_left()), 3)
        self.assertFalse(from_right() <= from_left(HUGE))
        self.assertTrue(from_left(-HUGE) < from_right())

    def test_one_parity_alone(self):
        self.assertEqual(first_beyond(Place(0, 0, 1), from_left()), 1)
        self.assertEqual(first_beyond(Place(0, 1, -1), from_left()), 2)
        self.assertEqual(first_beyond(Place(1, -1, -1), from_left()), 4)
        self.assertEqual(first_beyond(Place(1, -2, 1), from_left()), 5)
        self.assertIsNone(first_beyond(from_left(), from_left()))
        self.assertIsNone(first_beyond(Place(-1, 0, 0), from_left()))

    def test_by_name(self):
        self.assertEqual(first_beyond(one=from_left(2), other=from_right(2)), 1)

    def test_nothing_else_is_ordered(self):
        for value in (None, 1, "left 0", (0, 0, 0)):
            for call in (lambda: Place(0, 0) <= value, lambda: Place(0, 0) < value,
                         lambda: Place(0, 0) >= value, lambda: Place(0, 0) > value):
                with self.assertRaises(TypeError):
                    call()


class Texts(Case):
    def test_names(self):
        self.assertEqual(str(from_left(-3)), "left -3")
        self.assertEqual(str(Place(2, 3, 1)), "right -3")
        self.assertEqual(str(Place(2, 0, 1)), "right 0")
        self.assertEqual(str(Place(1, 0, 0)), "middle 0")
        self.assertEqual(str(Place(1, 0, 1)), "place 1 0 1")
        self.assertEqual(str(Place(0, 4, 1)), "place 0 4 1")
        self.assertEqual(str(Place(2, -4, 0)), "place 2 -4 0")

    def test_read_back(self):
        for place in SMALL + [Place(HUGE, -HUGE, HUGE), from_left(HUGE), from_right(HUGE), from_middle(-HUGE)]:
            self.assertEqual(Place.read(str(place)), place)
        self.assertEqual(Place.read(text="right 2"), from_right(2))

    def test_wrong_words(self):
        wrong = {
            "": 0, " ": 0, "left": 1, "right ": 1, "left  1": 1, " left 1": 0, "left 1 ": 2, "left 1 2": 2,
            "Left 1": 0, "centre 1": 0, "1": 0, "left x": 1, "left 01": 1, "left -0": 1, "left +1": 1, "left -": 1,
            "left --1": 1, "left 1.0": 1, "left 1_0": 1, "left \n1": 1, "left 1\n": 1, "left\n1": 0, "left\t1": 0,
            "place": 1, "place 1": 2, "place 1 0": 3, "place x": 1, "place 1 x": 2, "place 1 0 x": 3,
            "place 1 0 1 0": 4, "place 1 0 1 ": 4, "place 0 3 0": 0, "place 2 -3 1": 0, "place 1 3 0": 0,
            "place 0 3 0 7": 0, "place 0 3": 3, "place 0 3 00": 3, "right 02": 1, "middle -01": 1,
            "left " + "1" * 61: 1, "left -" + "1" * 61: 1, "place 1 1 " + "1" * 61: 3, "left " + "1" * 1900: 1,
            "place place 1 0 1": 1, "left left": 1,
        }
        for text, word in wrong.items():
            self.refused(BadText(0, word), Place.read, text)

    def test_sixty_figures(self):
        self.assertEqual(Place.read("left " + "9" * 60), from_left(HUGE))
        self.assertEqual(Place.read("left -" + "9" * 60), from_left(-HUGE))

    def test_no_string(self):
        for value in VALUES:
            if not isinstance(value, str):
                self.refused(BadText(0, 0), Place.read, value)
