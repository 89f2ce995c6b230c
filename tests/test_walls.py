"""Walls [15]: which of some deeds are enough for a claim to hold on all canvases."""

import random
import time
from itertools import combinations

from heldfloods.boxes import Box
from heldfloods.claims import Covered, Held, NoneLeft
from heldfloods.classes import pairs
from heldfloods.deeds import Again, Fill, Flood, Grow, Swap, When
from heldfloods.errors import BadClaim, BadProgram, NoDeed, NoFlood, TooMany
from heldfloods.judge import No, judge
from heldfloods.places import from_right
from heldfloods.programs import Program
from heldfloods.walls import Walls, chosen, fewest
from tests.helpers import VALUES, Case, is_whole, no_claims, no_programs, others
from tests.naive import Maker

WHOLE = Box.whole()
TWICE = Program(Fill(Box(3, 4, 0, from_right()), 1), Fill(Box(5, 6, 0, from_right()), 1), Flood(0, 0, 2))
LONG = Program(Grow(1), Grow(2), Again(2, Swap(1, 2)), When(0, 0, 0, [Flood(0, 0, 1)]), Grow(3), Flood(0, 0, 1),
               Grow(4),
               Again(1, Again(0, Flood(0, 0, 3))), Grow(5), When(0, 0, 0, [], [Flood(1, 1, 1)]), Grow(6))
WALLS = [0, 1, 2, 4, 6, 8, 10]


def in_order(walls):
    """All choices, in their order."""
    return [choice for many in range(len(walls) + 1) for choice in combinations(sorted(walls), many)]


def without(program, walls, choice):
    return Program(*[deed for at, deed in enumerate(program.deeds) if at not in walls or at in choice])


class Chosen(Case):
    def test_lists_and_tuples(self):
        for many in range(6):
            for walls in combinations(WALLS, many):
                for choice in in_order(walls):
                    wanted = without(LONG, walls, choice)
                    self.same(chosen(LONG, walls, choice), wanted)
                    self.same(chosen(program=LONG, indexes=list(walls)[::-1], choice=list(choice)[::-1]), wanted)

    def test_arguments_stay(self):
        indexes, choice = [4, 0, 2], [2, 4]
        chosen(LONG, indexes, choice)
        fewest(LONG, indexes, NoneLeft(9))
        self.assertEqual((indexes, choice), ([4, 0, 2], [2, 4]))

    def test_wrong_indexes(self):
        for value in others(lambda value: is_whole(value) and value in WALLS):
            self.refused(NoDeed(value), chosen, LONG, [0, value, None], [None])
            self.refused(NoDeed(value), chosen, LONG, (value,), ())
            self.refused(NoDeed(value), fewest, LONG, (1, value, 3), NoneLeft(9))
        for value in (3, 5, 7, 9, 11, -1, 10 ** 12):
            self.refused(NoDeed(value), chosen, LONG, [1, value, value], [])
            self.refused(NoDeed(value), fewest, LONG, [1, value], NoneLeft(9))
        self.refused(NoDeed(1), chosen, LONG, [1, 2, 1, 2], [])
        self.refused(NoDeed(2), fewest, LONG, (1, 2, 4, 2, 3), NoneLeft(9))
        self.refused(NoDeed(True), chosen, LONG, [0, True], [])
        self.refused(NoDeed(True), chosen, LONG, [1, True], [])

    def test_wrong_choices(self):
        for value in others(lambda value: is_whole(value) and value in (0, 2)):
            self.refused(NoDeed(value), chosen, LONG, [2, 0], [0, value, None])
        self.refused(NoDeed(True), chosen, LONG, [1, 2], [1, True])
        self.refused(NoDeed(4), chosen, LONG, [], (4,))

    def test_six_walls(self):
        six = WALLS[:6]
        self.refused(TooMany("walls", 5), chosen, LONG, six, [0, 1])
        self.refused(TooMany("walls", 5), chosen, LONG, tuple(WALLS), ())
        self.refused(TooMany("walls", 5), fewest, LONG, six, NoneLeft(9))
        self.refused(NoDeed(3), chosen, LONG, six, [0, 3])
        self.refused(NoDeed(8), chosen, LONG, [*six, 8], [3])


class Fewest(Case):
    def look_at(self, program, indexes, claim):
        found = fewest(program, indexes, claim)
        self.assertIs(type(found), Walls)
        self.assertIs(type(found.reasons), tuple)
        ahead = in_order(indexes) if found.kept is None else in_order(indexes)[:in_order(indexes).index(found.kept)]
        self.assertEqual([choice for choice, _ in found.reasons], ahead)
        for reason in found.reasons:
            choice, verdict = reason
            wanted = judge(without(program, indexes, choice), claim)
            self.assertTrue(type(reason) is tuple and type(choice) is tuple and isinstance(verdict, No))
            self.assertEqual((verdict, verdict.pixel), (wanted, wanted.pixel))
        if found.kept is not None:
            self.assertTrue(judge(without(program, indexes, found.kept), claim))
        self.same(bool(found), found.kept is not None)
        return found

    def test_beside_judge(self):
        source = random.Random(61)
        seen = []
        while len(seen) < 150:
            maker = Maker(source)
            program = Program(*[Fill(maker.box(), maker.colour()) for _ in range(5)], maker.flood())
            indexes = source.sample(range(5), source.choice([2, 3, 3, 4]))
            some = program[source.randrange(5)]
            claim = source.choice([maker.claim(1, source.choice([1, 1, 2])), Covered(some.box, some.colour),
                                   ~NoneLeft(some.colour), Covered(some.box, some.colour) & NoneLeft(9)])
            try:
                seen.append(self.look_at(program, indexes, claim).kept)
            except TooMany:
                continue
        self.assertGreater(seen.count(()), 5)
        self.assertGreater(seen.count(None), 5)
        self.assertGreater(len([kept for kept in seen if kept]), 5)

    def test_first_in_order(self):
        room = Box(0, 6, 0, from_right())
        self.assertEqual(self.look_at(TWICE, [1, 0], Held(0, room)).kept, (0,))
        self.assertEqual(self.look_at(TWICE, (0, 1), Held(0, Box(0, 3, 0, from_right()))).kept, (0,))
        self.assertEqual(self.look_at(TWICE, [1], Held(0, Box(0, 9, 0, from_right()))).kept, ())
        self.assertEqual(self.look_at(TWICE.without(0), [0], Held(0, Box(0, 3, 0, from_right()))).kept, None)
        bars = [Fill(Box(3, 4, k, k + 1), 1) for k in range(3)]
        bars = Program(*bars, Fill(Box(3, 4, 3, from_right()), 1), Flood(0, 0, 2))
        self.assertEqual(self.look_at(bars, [0, 1, 2, 3], Held(0, Box(0, 3, 0, from_right()))).kept, (0, 1, 2, 3))
        self.assertEqual(self.look_at(bars, [2, 0], Held(0, Box(0, 3, 0, from_right()))).kept, (0, 2))

    def test_no_walls(self):
        self.assertEqual((fewest(TWICE, [], NoneLeft(9)).kept, fewest(TWICE, (), NoneLeft(9)).reasons), ((), ()))
        found = fewest(program=Program(), indexes=[], claim=NoneLeft(0))
        self.assertEqual((found.kept, bool(found), len(found.reasons)), (None, False, 1))
        self.assertTrue(fewest(Program(), (), NoneLeft(1)))

    def test_equality(self):
        one, other = judge(TWICE, NoneLeft(0)), judge(TWICE, NoneLeft(1))
        rows = [((0,), (((), one),)), ((1,), (((), one),)), ((0,), (((), other),)), ((0,), ()), (None, (((), one),))]
        for row in rows:
            for beside in rows:
                self.same(Walls(*row) == Walls(*beside), row is beside)
            for value in VALUES + [row, one]:
                self.same(Walls(*row) == value, False)
            self.same(bool(Walls(*row)), row[0] is not None)
        self.assertTrue(bool(Walls((), ())))

    def test_errors_in_order(self):
        far = Program(Again(9, Grow(1)), Again(9, Grow(1)), Flood(0, 0, 1))
        for value in no_programs():
            self.refused(BadProgram(0), fewest, value, None, None)
            self.refused(BadProgram(0), chosen, value, [], [])
        for value in no_claims():
            self.refused(BadClaim("claim"), fewest, far, [2], value)
        self.refused(NoDeed(2), fewest, far, [2], NoneLeft(1))
        self.refused(TooMany("walls", 5), fewest, Program(*[Again(6, Grow(1))] * 8), list(range(6)),
                     NoneLeft(0))
        self.refused(TooMany("edges", 60), fewest, far, [], NoneLeft(1))
        self.refused(NoFlood(1), fewest, far, [0, 1], Held(1, WHOLE))

    def test_errors_of_a_later_choice(self):
        # Without walls, and with one of them, it can be judged; but not with both.
        far = Program(Again(9, Grow(1)), Again(9, Grow(1)), Swap(1, 2))
        self.refused(TooMany("edges", 60), fewest, far, [0, 1], NoneLeft(0))
        self.assertEqual(fewest(far, [0, 1], NoneLeft(1)).kept, ())
        self.assertEqual([judge(without(far, [0, 1], choice), NoneLeft(0)).paper for choice in ((), (0,), (1,))],
                         [("no", 1, 1)] * 3)
        many = Program(*[Fill(Box(4 * k, 4 * k + 2, 4 * k, 4 * k + 2), 1) for k in range(1, 16)])
        self.refused(TooMany("pairs", 2000), fewest, many, [], NoneLeft(0))
        walls = [5, 6, 7, 8, 9]
        self.assertLessEqual(len(list(pairs(without(many, walls, ())))), 2000)
        self.refused(TooMany("pairs", 2000), fewest, many, walls, NoneLeft(0))
        self.assertEqual(fewest(many, walls, NoneLeft(9)).kept, ())


class Quick(Case):
    def test_five_walls(self):
        bars = [Fill(Box(3 * k + 1, from_right(2 * k + 2), 2 * k + 1, from_right(k + 1)), k % 4 + 1) for k in range(9)]
        program = Program(*bars, Flood(0, 0, 5), Flood(from_right(1), 0, 6))
        self.assertGreater(len(list(pairs(program))), 1200)
        begun = time.process_time()
        self.assertIsNone(fewest(program, [0, 2, 4, 6, 8], ~NoneLeft(7)).kept)
        self.assertEqual(fewest(program, [1, 3, 5, 7, 8], NoneLeft(9)).kept, ())
        self.assertLess(time.process_time() - begun, 20)
