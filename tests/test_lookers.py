"""Lookers: what other functions tell is shown, and the same with one thing otherwise is not."""

import random
import time

from heldfloods.alike import alike, within
from heldfloods.boxes import Box
from heldfloods.claims import ColourAt, Covered, Held, NoneLeft
from heldfloods.classes import classes
from heldfloods.deeds import Again, Fill, Flip, Flood, Frame, Grow, Swap, When
from heldfloods.edges import edges
from heldfloods.errors import TooMany
from heldfloods.floods import leak
from heldfloods.judge import failing, judge
from heldfloods.lookers import (is_cover, shows_alike, shows_fewest, shows_least, shows_leak, shows_verdict,
                                shows_within)
from heldfloods.places import Place, from_left, from_middle, from_right
from heldfloods.programs import Program
from heldfloods.walls import chosen, fewest
from tests.helpers import VALUES, Case, is_whole, others
from tests.naive import Maker, at, flood_regions, inside, paint, sides

WHOLE = Box.whole()
RING = Program(Frame(WHOLE, 1), Flood(from_middle(), from_middle(), 2))
ENDS = [from_left(), from_right()]
PLAIN = ((1, None), (2, None))


def told(sizes):
    return tuple((one.low, one.high) for one in sizes)


def cut(rows, source):
    """The rows with one of them cut in two, which has more than one size."""
    k = source.choice([k for k, (low, high) in enumerate(rows) if high != low])
    low, high = rows[k]
    end = source.choice([low, low + 2, low + 10]) if high is None else source.randrange(low, high, 2)
    return rows[:k] + ((low, end), (end + 2, high)) + rows[k + 1:]


def joined(rows, source):
    """The rows with one of them put together with the next one of its parity; None if there is none."""
    pairs = [(one, other) for one in rows for other in rows if one[1] is not None and other[0] == one[1] + 2]
    if not pairs:
        return None
    one, other = source.choice(pairs)
    return tuple(row for row in rows if row not in (one, other)) + ((one[0], other[1]),)


def spoilt(rows, source):
    """Values that are no covers."""
    k = source.randrange(len(rows))
    low, high = rows[k]
    found = [rows[:k] + rows[k + 1:], rows + (rows[k],), rows + ((low, low),), (), rows[:k] + (None,) + rows[k + 1:],
             rows[:k] + ([low, high],) + rows[k + 1:], rows[:k] + ((low, high, high),) + rows[k + 1:],
             rows[:k] + ((low,),) + rows[k + 1:], rows[:k] + ((str(low), high),) + rows[k + 1:],
             rows[:k] + ((low, str(high)),) + rows[k + 1:], rows + ((0, 0),), rows + ((-1, -1),), None, str(rows)]
    if high is not None:
        found += [rows[:k] + ((low, high + 1),) + rows[k + 1:], rows[:k] + ((low, high + 2),) + rows[k + 1:],
                  rows[:k] + ((low, None),) + rows[k + 1:], rows[:k] + ((low, low - 2),) + rows[k + 1:]]
    found += [tuple((True if a == 1 else a, b) for a, b in rows)]
    found += [tuple((a, True if b == 1 else b) for a, b in rows)] if (1, 1) in rows else []
    return found


def some(make, seed, many):
    """What make makes of a Maker, where there are not too many edges or pairs."""
    source, found = random.Random(seed), []
    while len(found) < many:
        try:
            found.append(make(Maker(source), source))
        except TooMany:
            continue
    return found


class Covers(Case):
    def test_classes_and_others(self):
        source = random.Random(91)
        for _ in range(150):
            places = [Maker(source).place() for _ in range(source.randint(0, 5))] + ENDS
            rows = told(classes(places))
            self.same(is_cover(places, rows), True)
            self.same(is_cover(tuple(places), list(rows)), True)
            mixed = list(cut(cut(rows, source), source))
            source.shuffle(mixed)
            self.same(is_cover(places=places, rows=mixed), True)
            if joined(rows, source) is not None:
                self.same(is_cover(places, joined(rows, source)), False)
            for value in spoilt(rows, source):
                self.same(is_cover(places, value), False)

    def test_one_size_between(self):
        # Slope 2 meets slope 0 at the size 7 alone; at 5 and at 9 they stand in other orders.
        places = [Place(2, 0, 0), from_left(6)]
        self.assertEqual(told(classes(places)), ((1, 5), (2, 4), (6, 6), (7, 7), (8, None), (9, None)))
        self.assertFalse(is_cover(places, ((1, None), (2, 4), (6, 6), (8, None))))
        # Two that are equal at one size between, and in one order at both ends of a row.
        same = [Place(2, 0, 0), from_left(6), Place(0, 6, 1)]
        for rows in (((1, 5), (7, None), (2, 4), (6, None)), ((1, 5), (7, 7), (9, None), (2, 6), (8, None))):
            self.assertFalse(is_cover(same, rows))
        self.assertTrue(is_cover([from_left(3)], PLAIN))
        self.assertTrue(is_cover([], PLAIN))
        self.assertFalse(is_cover([], ((1, None),)))

    def test_values(self):
        for value in VALUES:
            for rows in (value, (value,), [value], (*PLAIN, value), ((1, value), (2, None)),
                         ((value, None), (2, None))):
                if rows not in (PLAIN, ((1, 1), (2, None)), ((1, None), (2, None))) or value is True:
                    self.same(is_cover(ENDS, rows), False)
        self.assertTrue(is_cover(ENDS, ((1, 1), (3, None), (2, 10 ** 60 - 2), (10 ** 60, None))))

    def test_two_thousand_rows(self):
        rows = [(n, n) for n in range(1, 1999)] + [(1999, None), (2000, None)]
        self.assertTrue(is_cover(ENDS, rows))
        self.assertFalse(is_cover(ENDS, [(n, n) for n in range(1, 2000)] + [(2000, None), (2001, None)]))


class Verdicts(Case):
    def look_at(self, shows, verdict, things, source):
        """That the paper of a verdict is shown, and others are as they should be."""
        paper = verdict.paper
        self.same(shows(*things, paper), True)
        for value in VALUES + [list(paper), paper[:2], (*paper, 1), (None, *paper[1:]), ("maybe", *paper[1:]),
                               (True, *paper[1:]), ({"yes": "no", "no": "yes"}[paper[0]], *paper[1:])]:
            self.same(shows(*things, value), False)
        if not verdict:
            for value in [1.5] + others(lambda value: is_whole(value) and 1 <= value <= 10 ** 40):
                self.same(shows(*things, ("no", value, verdict.height)), False)
                self.same(shows(*things, ("no", verdict.width, value)), False)
            return
        _, widths, heights = paper
        self.same(shows(*things, ("yes", cut(widths, source), cut(heights, source)[::-1])), True)
        self.same(shows(*things, ("yes", list(widths), heights)), False)
        self.same(shows(*things, ("yes", widths, list(heights))), False)
        self.same(shows(*things, ("no", 1, 1)), False)
        for value in spoilt(widths, source) + [joined(widths, source)]:
            self.same(shows(*things, ("yes", value, heights)), False)
        for value in spoilt(heights, source) + [joined(heights, source)]:
            self.same(shows(*things, ("yes", widths, value)), False)

    def test_verdicts(self):
        source = random.Random(92)
        for program, claim, verdict in some(lambda maker, source: with_verdict(
                maker.program() + maker.flood(), maker.claim(1, source.choice([1, 2, 3]))), 92, 60):
            self.look_at(shows_verdict, verdict, (program, claim), source)
            for width, height in ((1, 1), (2, 3), (7, 4), (10 ** 40, 5), (10 ** 40 - 1, 10 ** 40)):
                self.same(shows_verdict(program, claim, ("no", width, height)),
                          not claim.holds(program, width, height))

    def test_alike_and_within(self):
        source = random.Random(93)

        def two(maker, source):
            one = maker.program()
            other = source.choice([one + maker.flood(), one + Swap(1, 1), one.exchanged(0), one + one[1],
                                   maker.program()])
            return one, other, alike(one, other), within(one, other)

        seen = []
        for one, other, are_alike, is_within in some(two, 94, 60):
            self.look_at(shows_alike, are_alike, (one, other), source)
            self.look_at(shows_within, is_within, (one, other), source)
            seen.append((bool(are_alike), bool(is_within)))
            for width, height in ((1, 1), (3, 2), (6, 5)):
                pictures = paint(one, width, height), paint(other, width, height)
                self.same(shows_alike(one, other, ("no", width, height)), pictures[0] != pictures[1])
                kept = all(sign in ("0", beside) for row, under in zip(*pictures) for sign, beside in zip(row, under))
                self.same(shows_within(one, other, ("no", width, height)), not kept)
        self.assertGreater(min(seen.count((True, True)), seen.count((False, False))), 5)

    def test_yes_of_a_claim_that_fails(self):
        for wide, high in failing(RING, NoneLeft(2)):
            self.assertTrue(shows_verdict(RING, NoneLeft(2), ("no", wide.low, high.low)))
        claim = Held(0, Box.inside(1))
        widths, heights = (told(classes(edges(axis, RING, claim))) for axis in ("across", "down"))
        self.assertFalse(shows_verdict(RING, claim, ("yes", widths, heights)))
        self.assertTrue(shows_verdict(RING, claim | NoneLeft(9), ("yes", widths, heights)))

    def test_edges_of_the_claim_count(self):
        claim = ColourAt(4, 0, 0)
        self.assertTrue(shows_verdict(Program(), claim, judge(Program(), claim).paper))
        self.assertTrue(shows_verdict(Program(), NoneLeft(1), ("yes", PLAIN, PLAIN)))
        self.assertFalse(shows_verdict(Program(), claim, ("yes", PLAIN, PLAIN)))
        self.assertFalse(shows_alike(Program(), Program(Fill(Box(0, 3, 0, 1), 0)), ("yes", PLAIN, PLAIN)))
        self.assertFalse(shows_within(Program(Fill(Box(0, 3, 0, 3), 0)), Program(), ("yes", PLAIN, PLAIN)))

    def test_two_thousand_pairs(self):
        def rows(many):
            return tuple((n, n) for n in range(1, many - 1)) + ((many - 1, None), (many, None))

        for wide, high in ((1000, 2), (2, 1000), (500, 4)):
            self.assertTrue(shows_verdict(Program(), NoneLeft(1), ("yes", rows(wide), rows(high))))
            self.assertTrue(shows_alike(Program(), Program(), ("yes", rows(wide), rows(high))))
        for wide, high in ((667, 3), (3, 667), (1001, 2)):
            self.assertFalse(shows_verdict(Program(), NoneLeft(1), ("yes", rows(wide), rows(high))))
            self.assertFalse(shows_within(Program(), Program(), ("yes", rows(wide), rows(high))))


def with_verdict(program, claim):
    return program, claim, judge(program, claim)


class Least(Case):
    def test_least_canvases(self):
        source = random.Random(95)
        seen = 0
        for program, claim, verdict in some(lambda maker, source: with_verdict(
                maker.program() + maker.flood(), maker.claim(1, source.choice([1, 2]))), 95, 120):
            widths, heights = (told(classes(edges(axis, program, claim))) for axis in ("across", "down"))
            if verdict:
                self.same(shows_least(program, claim, verdict.paper, widths, heights), False)
                self.same(shows_least(program, claim, ("no", 1, 1), widths, heights), False)
                continue
            seen += 1
            self.same(shows_least(program, claim, verdict.paper, widths, heights), True)
            self.same(shows_least(program, claim, verdict.paper, list(cut(widths, source)), list(heights)[::-1]), True)
            for value in spoilt(widths, source) + [joined(widths, source)]:
                self.same(shows_least(program, claim, verdict.paper, value, heights), False)
            for value in spoilt(heights, source) + [joined(heights, source)] + VALUES:
                self.same(shows_least(program, claim, verdict.paper, widths, value), False)
            for value in VALUES + [("yes", widths, heights), list(verdict.paper)]:
                self.same(shows_least(program, claim, value, widths, heights), False)
            for wide, high in list(failing(program, claim))[1:6]:
                self.same(shows_least(program, claim, ("no", wide.low, high.low), widths, heights), False)
        self.assertGreater(seen, 40)

    def test_lows_that_come_ahead(self):
        # It fails at 1 by 3, 2 by 2 and 3 by 1, which have one sum.
        program = Program(Fill(Box(2, 3, 0, 1), 1), Fill(Box(1, 2, 1, 2), 1), Fill(Box(0, 1, 2, 3), 1))
        widths, heights = (told(classes(edges(axis, program))) for axis in ("across", "down"))
        for width, height in ((1, 3), (2, 2), (3, 1)):
            self.assertTrue(shows_verdict(program, NoneLeft(1), ("no", width, height)))
            self.same(shows_least(program, NoneLeft(1), ("no", width, height), widths, heights), width == 1)
        # A canvas that is no low on one axis.
        wide = told(classes(edges("across", RING)))
        self.assertFalse(shows_least(RING, ~NoneLeft(9), ("no", 1, wide[-1][0] + 2), wide, wide))
        self.assertTrue(shows_least(RING, ~NoneLeft(9), ("no", 1, 1), wide, wide))


def is_way(program, index, box, size, path):
    """Whether a row of pixels is the way of a leak, pixel by pixel."""
    flood = [deed for deed in program.each() if isinstance(deed, Flood)][index]
    start, room = (at(flood.x, size[0]), at(flood.y, size[1])), sides(box, *size)
    near = all(abs(x - to_x) + abs(y - to_y) == 1 for (x, y), (to_x, to_y) in zip(path, path[1:]))
    ends = [inside(pixel, room) for pixel in path] == [True] * (len(path) - 1) + [False]
    regions = flood_regions(program, *size, index)
    return bool(path) and path[0] == start and near and ends and any(set(path) <= region for region in regions)


class Leaking(Case):
    def test_ways_and_others(self):
        source, shown = random.Random(96), [0, 0]

        def case(maker, source):
            flood = maker.flood()
            program = maker.program() + source.choice([flood, Again(2, flood, Flip("down")),
                                                       Again(2, flood, maker.flood())])
            index = source.randrange(program.floods)
            box = source.choice([maker.box(), Box(flood.x - 1, flood.x + 2, flood.y - 2, flood.y + 2)])
            return program, index, box, leak(program, index, box)

        for program, index, box, found in some(case, 97, 120):
            size = source.choice([(3, 3), (5, 4), (6, 6)]) if found is None else (found.width, found.height)
            paths = [()] if found is None else [found.path, found.path[:-1], found.path[1:], found.path * 2,
                                                found.path + found.path[::-1][1:]]
            if found is not None:
                self.same(shows_leak(program, index, box, *size, found.path), True)
                self.same(shows_leak(program, index, box, *size, list(found.path)), True)
            for region in flood_regions(program, *size, index):
                for _ in range(12):
                    flood = [deed for deed in program.each() if isinstance(deed, Flood)][index]
                    path = [(at(flood.x, size[0]), at(flood.y, size[1]))]
                    while len(path) < 12 and inside(path[-1], sides(box, *size)):
                        x, y = path[-1]
                        steps = [(x + 1, y), (x - 1, y), (x, y + 1), (x, y - 1)]
                        path.append(source.choice([step for step in steps if step in region] or steps))
                    paths.append(tuple(path))
            for path in paths:
                for changed in (path, path[:-1], path[1:], tuple((x + 1, y) for x, y in path),
                                path[:1] + path[2:], path + ((0, 0),)):
                    wanted = is_way(program, index, box, size, changed)
                    shown[wanted] += 1
                    self.same(shows_leak(program, index, box, *size, changed), wanted)
        self.assertGreater(min(shown), 200)

    def test_of_one_time(self):
        # The first time the flood comes to the right, the second time to the left, and never to both ends.
        bar = Fill(Box(3, 4, 0, from_right()), 1)
        turn = When(3, 0, 1, [Fill(Box(3, 4, 0, from_right()), 0), Fill(Box(7, 8, 0, from_right()), 1)])
        program = Program(bar, Again(2, Flood(5, 0, 0), turn))
        box = Box(4, 9, 0, from_right())
        self.assertTrue(shows_leak(program, 0, box, 12, 1, tuple((x, 0) for x in range(5, 10))))
        box = Box(3, 7, 0, from_right())
        self.assertTrue(shows_leak(program, 0, box, 12, 1, [(5, 0), (4, 0), (3, 0), (2, 0)]))
        self.assertFalse(shows_leak(program, 0, box, 12, 1, [(5, 0), (4, 0), (3, 0), (4, 0), (5, 0), (6, 0), (7, 0)]))
        self.assertTrue(shows_leak(program, 0, box, 12, 1, [(5, 0), (4, 0), (5, 0), (6, 0), (7, 0)]))

    def test_sizes_and_values(self):
        program, box = Program(Flood(0, 0, 1)), Box(0, 199, 0, from_right())
        path = tuple((x, 0) for x in range(200))
        self.assertTrue(shows_leak(program=program, index=0, box=box, width=200, height=200, path=path))
        self.assertFalse(shows_leak(program, 0, box, 201, 200, path))
        self.assertFalse(shows_leak(program, 0, box, 200, 201, path))
        self.assertFalse(shows_leak(program, 0, box, 199, 1, path))
        for value in others(lambda value: is_whole(value) and value == 200):
            self.same(shows_leak(program, 0, box, value, 3, path), False)
            self.same(shows_leak(program, 0, box, 200, 3, value), False)
            self.same(shows_leak(program, 0, box, 200, 3, (*path[:-1], value)), False)
            self.same(shows_leak(program, 0, box, 200, 3, [value, *path[1:]]), value == (0, 0))
        for value in others(lambda value: is_whole(value) and 1 <= value <= 200):
            self.same(shows_leak(program, 0, box, 200, value, path), False)
        near = Box(1, 2, 0, 1)
        self.assertTrue(shows_leak(program, 0, near, 1, 1, ((0, 0),)))
        for path in ((), [], ([0, 0],), ((0, 0, 0),), ((False, 0),), ((0, False),), ((0,),), ("00",), ((0, -1),),
                     ((1, 0),)):
            self.same(shows_leak(program, 0, near, 1, 1, path), False)
        self.assertFalse(shows_leak(program, 0, near, True, 1, ((0, 0),)))
        self.assertFalse(shows_leak(Program(Flood(3, 0, 1)), 0, near, 3, 1, ((3, 0),)))


class Few(Case):
    def look_at(self, program, indexes, claim):
        found = fewest(program, indexes, claim)
        paper = None if found.kept is None else judge(chosen(program, indexes, found.kept), claim).paper
        reasons = tuple((choice, no.paper) for choice, no in found.reasons)
        self.same(shows_fewest(program, indexes, claim, found.kept, reasons, paper), True)
        self.same(shows_fewest(program=program, indexes=tuple(indexes), claim=claim, kept=found.kept,
                               reasons=list(reasons), paper=paper), True)
        more = reasons + (((0,), ("no", 1, 1)),)
        for rows in [more, more[1:], reasons[:-1] if reasons else [None], [list(row) for row in reasons] or None,
                     *VALUES]:
            if rows not in (reasons, list(reasons)):
                self.same(shows_fewest(program, indexes, claim, found.kept, rows, paper), False)
        if len(reasons) > 1:
            self.same(shows_fewest(program, indexes, claim, found.kept, reasons[::-1], paper), False)
        for k, (choice, shown) in enumerate(reasons):
            for row in ((list(choice), shown), (choice, list(shown)), (choice, None), (choice, ("yes", (), ())),
                        (choice, ("no", 0, 1)), (choice + (0,), shown), (choice,), (choice, shown, 1), None):
                rows = reasons[:k] + (row,) + reasons[k + 1:]
                self.same(shows_fewest(program, indexes, claim, found.kept, rows, paper), False)
        for value in VALUES + [[], list(found.kept or ()), ("yes", (), ())]:
            if not (value == paper and type(value) is type(paper)):
                self.same(shows_fewest(program, indexes, claim, found.kept, reasons, value), False)
            if not (value == found.kept and type(value) is type(found.kept)):
                self.same(shows_fewest(program, indexes, claim, value, reasons, paper), False)
        return found.kept

    def test_beside_fewest(self):
        def case(maker, source):
            program = Program(*[Fill(source.choice([WHOLE, maker.box()]), maker.colour()) for _ in range(4)],
                              maker.flood())
            claim = source.choice([maker.claim(1), maker.claim(1) | maker.claim(1), NoneLeft(program[1].colour),
                                   ~NoneLeft(program[2].colour), Covered(WHOLE, program[3].colour), NoneLeft(0)])
            return self.look_at(program, source.sample(range(4), source.choice([0, 1, 2, 3])), claim)

        found = some(case, 98, 40)
        self.assertGreater(min(found.count(None), found.count(())), 4)
        self.assertGreater(len([kept for kept in found if kept]), 4)

    def test_kept_that_is_no_choice(self):
        room = Box(0, 6, 0, from_right())
        program = Program(Fill(Box(3, 4, 0, from_right()), 1), Fill(Box(5, 6, 0, from_right()), 1), Flood(0, 0, 2))
        claim = Held(0, room)
        self.assertEqual(self.look_at(program, [1, 0], claim), (0,))
        reasons = (((), ("no", 7, 1)), ((0,), ("no", 7, 1)))
        paper = judge(program.without(0), claim).paper
        self.assertFalse(shows_fewest(program, [0, 1], claim, (1,), reasons, paper))
        self.assertFalse(shows_fewest(program, [0, 1], claim, (False,), reasons[:1], paper))
        self.assertFalse(shows_fewest(program, [0, 1], claim, (1, 0), reasons, paper))
        self.assertFalse(shows_fewest(program, [0, 1], claim, None, reasons, None))

    def test_later_choices_are_not_asked_for(self):
        # With both walls there are too many edges; but the first choice is enough.
        far = Program(Again(9, Grow(1)), Again(9, Grow(1)), Swap(1, 2))
        claim = NoneLeft(1)
        self.assertEqual(fewest(far, [0, 1], claim).kept, ())
        reasons = tuple((choice, ("no", 1, 1)) for choice in ((), (0,), (1,)))
        self.assertFalse(shows_fewest(far, [0, 1], claim, (0, 1), reasons, ("yes", PLAIN, PLAIN)))
        self.assertFalse(shows_fewest(far, [0, 1], claim, None, (*reasons, ((0, 1), ("no", 1, 1))), None))


class Quick(Case):
    def test_many_pairs(self):
        program = Program(*[Fill(Box(3 * k + 1, from_right(2 * k + 2), 2 * k + 1, from_right(k + 1)), k % 4 + 1)
                            for k in range(9)], Again(5, Flood(0, 0, 5), Flood(from_right(1), 0, 6), Flip("across")))
        paper, same = judge(program, NoneLeft(9)).paper, alike(program, program).paper
        self.assertGreater(len(paper[1]) * len(paper[2]), 1400)
        begun = time.process_time()
        self.assertTrue(shows_verdict(program, NoneLeft(9), paper))
        self.assertTrue(shows_alike(program, program, same))
        self.assertTrue(shows_within(program, program, same))
        self.assertFalse(shows_least(program, NoneLeft(9), ("no", 9, 9), *paper[1:]))
        self.assertLess(time.process_time() - begun, 20)
