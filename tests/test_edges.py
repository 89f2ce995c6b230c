"""Edges [9]: which places they are, in which order, and how many."""

import random

from heldfloods.boxes import Box
from heldfloods.deeds import Again, Copy, Fill, Flip, Flood, Frame, Grow, Swap, When
from heldfloods.edges import edges
from heldfloods.errors import BadDeed, TooMany
from heldfloods.places import Place, from_left, from_middle, from_right
from heldfloods.programs import Program
from tests.helpers import VALUES, Case
from tests.naive import Maker, edge_set, numbers

BOX = Box(2, from_right(3), from_middle(1), from_right(1))


def texts(axis, *things):
    return [str(place) for place in edges(axis, *things)]


def across(*deeds):
    return texts("across", Program(*deeds))


def down(*deeds):
    return texts("down", Program(*deeds))


class OfDeeds(Case):
    def test_without_deeds(self):
        self.assertEqual(across(), ["left 0", "right 0"])
        self.assertEqual(down(), ["left 0", "right 0"])
        self.assertTrue(all(type(place) is Place for place in edges("down", Program())))

    def test_fill(self):
        self.assertEqual(across(Fill(BOX, 1)), ["left 0", "left 2", "right 3", "right 0"])
        self.assertEqual(down(Fill(BOX, 1)), ["left 0", "middle 1", "right 1", "right 0"])

    def test_frame(self):
        self.assertEqual(across(Frame(BOX, 1)), ["left 0", "left 2", "left 3", "right 4", "right 3", "right 0"])
        self.assertEqual(down(Frame(BOX, 1, 4)),
                         ["left 0", "middle 1", "middle 5", "right 5", "right 1", "right 0"])

    def test_flood(self):
        self.assertEqual(across(Flood(from_middle(), 7, 2)), ["left 0", "middle 0", "middle 1", "right 0"])
        self.assertEqual(down(Flood(from_middle(), 7, 2)), ["left 0", "left 7", "left 8", "right 0"])

    def test_copy(self):
        # By right 0 less left 2, that is place 2 -2 1.
        self.assertEqual(across(Copy(Box(2, from_left(4), 0, 1), from_right(), 0)),
                         ["left 0", "left 2", "left 4", "right 2", "right 0", "right -2", "place 4 -2 2"])
        self.assertEqual(down(Copy(Box(2, from_left(4), 0, 1), from_right(), 3)),
                         ["left 0", "left 1", "left 3", "left 4", "right 0", "right -3"])

    def test_copy_looks_at_the_set_as_it_is_then(self):
        fill, copy = Fill(Box(7, 8, 0, 1), 1), Copy(Box(0, 2, 0, 1), 10, 0)
        self.assertEqual(across(fill, copy), ["left 0", "left 2", "left 7", "left 8", "left 10", "left 12", "left 17",
                                              "left 18", "right 0", "right -10"])
        self.assertEqual(across(copy, fill), ["left 0", "left 2", "left 7", "left 8", "left 10", "left 12",
                                              "right 0", "right -10"])

    def test_flip(self):
        fill = Fill(Box(2, from_middle(), 2, from_middle()), 1)
        flipped = ["left 0", "left 2", "middle 0", "place 1 0 1", "right 2", "right 0"]
        plain = ["left 0", "left 2", "middle 0", "right 0"]
        self.assertEqual([across(fill, Flip("across")), down(fill, Flip("across"))], [flipped, plain])
        self.assertEqual([across(fill, Flip("down")), down(fill, Flip("down"))], [plain, flipped])
        self.assertEqual(across(Flip("across"), fill), plain)

    def test_grow(self):
        grown = ["left -1", "left 0", "left 1", "right 1", "right 0", "right -1"]
        self.assertEqual([across(Grow(3)), down(Grow(3))], [grown, grown])
        self.assertEqual(across(Grow(3), Grow(3)), ["left -2", "left -1", "left 0", "left 1", "left 2", "right 2",
                                                    "right 1", "right 0", "right -1", "right -2"])
        fill = Fill(Box(5, 9, 0, 1), 1)
        self.assertEqual(len(across(fill, Grow(3))), 12)
        self.assertEqual(len(across(Grow(3), fill)), 8)

    def test_swap(self):
        self.assertEqual(across(Swap(1, 2)), ["left 0", "right 0"])

    def test_again(self):
        self.assertEqual(across(Again(0, Fill(BOX, 1), Grow(1), Flip("across"))), ["left 0", "right 0"])
        self.assertEqual(across(Again(3, Grow(1))), across(Grow(1), Grow(1), Grow(1)))
        self.assertEqual(len(across(Again(9, Grow(1)))), 38)
        self.assertEqual(across(Again(2, Again(3, Grow(1)))), across(Again(6, Grow(1))))
        self.assertEqual(across(Again(2, Again(0, Grow(1)), Fill(BOX, 1))), across(Fill(BOX, 1)))
        one, two = Copy(Box(0, 2, 0, 1), 10, 0), Fill(Box(1, 3, 0, 1), 1)
        self.assertEqual(across(Again(2, one, two)), across(one, two, one, two))

    def test_when(self):
        self.assertEqual(across(When(3, 4, 0, [])), ["left 0", "left 3", "left 4", "right 0"])
        self.assertEqual(down(When(3, from_right(2), 0, [])), ["left 0", "right 2", "right 1", "right 0"])
        # The others find the set that the deeds have left, though only one of the two is done.
        fill, copy = Fill(Box(7, 8, 0, 1), 1), Copy(Box(0, 2, 0, 1), 10, 0)
        self.assertEqual(across(When(0, 0, 0, [fill], [copy])), across(Flood(0, 0, 1), fill, copy))
        self.assertEqual(across(When(0, 0, 0, [copy], [fill])), across(Flood(0, 0, 1), copy, fill))
        self.assertNotEqual(across(When(0, 0, 0, [copy], [fill])), across(When(0, 0, 0, [fill], [copy])))

    def test_far_out(self):
        far = 10 ** 12
        self.assertEqual(across(Fill(Box(Place(far, -far, far), Place(-far, far, -far), 0, 1), 1)),
                         [f"place {-far} {far} {-far}", "left 0", "right 0", f"place {far} {-far} {far}"])

    def test_by_the_definitions(self):
        maker = Maker(random.Random(31))
        told = 0
        for _ in range(800):
            program = maker.program()
            for axis in ("across", "down"):
                wanted = sorted(edge_set(axis, program))
                if len(wanted) > 60:
                    self.refused(TooMany("edges", 60), edges, axis, program)
                else:
                    self.assertEqual([numbers(place) for place in edges(axis, program)], wanted)
                    told += 1
        self.assertGreater(told, 1000)


class OfSeveral(Case):
    def test_put_together(self):
        one, two = Program(Fill(Box(2, 5, 0, 1), 1)), Program(Grow(1))
        self.assertEqual(texts("across", one, two),
                         ["left -1", "left 0", "left 1", "left 2", "left 5", "right 1", "right 0", "right -1"])
        self.assertEqual(texts("across", one, two), texts("across", two, one))
        self.assertEqual(texts("across", one, one, one), texts("across", one))
        # Not as if the second one were done behind the first one.
        self.assertNotEqual(texts("across", one, two), texts("across", one + two))

    def test_order(self):
        deeds = [Fill(Box(Place(1, 0, 2), Place(1, 0, -1), 0, 1), 1), Fill(Box(Place(-1, 5), Place(1, -3, 9), 0, 1), 1)]
        self.assertEqual(across(*deeds), ["place -1 5 0", "left 0", "place 1 -3 9", "place 1 0 -1", "place 1 0 2",
                                          "right 0"])

    def test_the_list_belongs_to_the_caller(self):
        program = Program(Grow(1))
        edges("across", program).clear()
        self.assertEqual(len(edges("across", program)), 6)


class Refused(Case):
    def test_axis(self):
        many = Program(Again(9, Grow(1)), Again(9, Grow(1)))
        self.refused(TooMany("edges", 60), edges, "across", many)
        for value in VALUES:
            if value not in ("across", "down"):
                self.refused(BadDeed("axis"), edges, value, Program())
                self.refused(BadDeed("axis"), edges, value, many)

    def test_sixty_and_one_more(self):
        flipped = Program(*[Fill(Box(2 * k + 1, 2 * k + 2, 0, 1), 1) for k in range(14)], Flip("across"))
        self.assertEqual(len(edges("across", flipped)), 58)
        self.assertEqual(len(edges("across", flipped + Fill(Box(40, 42, 0, 1), 1))), 60)
        framed = flipped + Frame(Box(40, 42, 0, 1), 1)
        self.refused(TooMany("edges", 60), edges, "across", framed)
        self.assertEqual(len(edges("down", framed)), 3)
        self.assertEqual(len(edges("across", Program(Again(9, Grow(1)), Again(5, Grow(1))))), 58)
        self.refused(TooMany("edges", 60), edges, "down", Program(Again(9, Grow(1)), Again(6, Grow(1))))

    def test_together(self):
        one = Program(*[Fill(Box(4 * k + 1, 4 * k + 2, 0, 1), 1) for k in range(15)])
        two = Program(*[Fill(Box(4 * k + 3, 4 * k + 4, 0, 1), 1) for k in range(15)])
        self.assertEqual([len(edges("across", program)) for program in (one, two)], [32, 32])
        self.refused(TooMany("edges", 60), edges, "across", one, two)
        self.assertEqual(len(edges("across", one.without(0), two.without(0))), 58)
        self.assertEqual(len(edges("across", one, two.without(0))), 60)
        self.assertEqual(len(edges("down", one, two)), 3)

    def test_copies_that_double_them(self):
        # 48 copies would make more places than can ever be listed.
        copies = Again(9, Copy(BOX, Place(3, 5, 1), 2), Copy(BOX, Place(5, 11, 2), 3))
        self.refused(TooMany("edges", 60), edges, "across", Program(copies, copies))
        self.refused(TooMany("edges", 60), edges, "across", Program(copies), Program())
