"""What the document promises over the whole program [2]: kinds, names of parameters, changes, lists and errors."""

import inspect

from heldfloods import (alike, areas, boxes, canvases, claims, classes, deeds, desk, edges, errors, floods, judge,
                        lookers, pictures, places, player, programs, reader, strips, texts, walls)
from heldfloods.boxes import Box
from heldfloods.claims import Both, Claim, ColourAt, Covered, Either, Held, Mirrored, NoneLeft, Not
from heldfloods.classes import Sizes
from heldfloods.deeds import Again, Copy, Fill, Flip, Flood, Frame, Grow, Swap, When
from heldfloods.errors import (BadClass, BadColour, BadDeed, BadProgram, BadSize, HoldError, NoFlood, NoName, TooMany)
from heldfloods.judge import No, Yes
from heldfloods.pictures import Picture
from heldfloods.places import Place, from_left, from_right
from heldfloods.programs import Program
from heldfloods.strips import Strips
from tests.helpers import VALUES, Case

WHOLE = Box.whole()
FAR = Program(Flood(0, 0, 1), Again(9, Grow(1)), Again(9, Grow(1)))
SIGNATURES = {
    places: ["Place(slope, offset, odd=0)", "Place.read(text)", "from_left(k=0)", "from_right(k=0)", "from_middle(k=0)",
             "first_beyond(one, other)"],
    pictures: ["Picture(rows)", "Picture.plain(width, height, colour=0)", "Picture.area(self, colour)",
               "Picture.flipped(self, axis)", "Picture.region(self, x, y)", "Picture.way(self, x, y, to_x, to_y)",
               "Picture.read(text)"],
    canvases: ["Canvas(width, height)", "Canvas.picture(self)", "Canvas.show(self, picture)",
               "Canvas.fill(self, x0, x1, y0, y1, colour)", "Canvas.flood(self, x, y, colour)", "Canvas.trial(self)",
               "Canvas.tried(self, work)"],
    boxes: ["Box(x0, x1, y0, y1)", "Box.whole()", "Box.inside(margin)"],
    deeds: ["Fill(box, colour)", "Frame(box, colour, thick=1)", "Flood(x, y, colour)", "Copy(box, x, y)", "Flip(axis)",
            "Swap(one, other)", "Grow(colour)", "Again(times, *deeds)", "When(x, y, colour, deeds, others=())",
            "Deed.on(self, canvas)", "Deed.each(self)", "Blocked.each(self)"],
    programs: ["Program(*deeds)", "Program.of(deeds)", "Program.each(self)", "Program.without(self, k)",
               "Program.exchanged(self, k)"],
    player: ["play(program, canvas)", "frames(program, width, height)", "regions_at(program, width, height, index)"],
    edges: ["edges(axis, *things)"],
    strips: ["Strips(program, width, height)", "Strips.colour_at(self, i, j)", "Strips.area(self, colour)",
             "Strips.regions(self, index)", "Strips.cells(self)", "Strips.picture(self)"],
    claims: ["ColourAt(x, y, colour)", "NoneLeft(colour)", "Covered(box, colour)", "Mirrored(axis)", "Held(index, box)",
             "Both(one, other)", "Either(one, other)", "Not(claim)", "Claim.holds(self, program, width, height)",
             "Claim.fault(self, program, width, height)", "Claim.singles(self)"],
    classes: ["Sizes(low, high=None)", "classes(places)", "class_of(places, size)", "pairs(*things)"],
    judge: ["judge(program, claim)", "failing(program, claim)", "safe_from(program, claim)", "need(program, claim)"],
    alike: ["alike(one, other)", "parting(one, other)", "within(one, other)", "needless(program)", "trimmed(program)",
            "exchangeable(program, k)", "commute(one, other)", "settled(program)"],
    floods: ["leak(program, index, box)", "Leak(width, height, path)", "need_held(program, index, box)",
             "reach(program, index, width, height)", "reaches(program, index)"],
    walls: ["chosen(program, indexes, choice)", "fewest(program, indexes, claim)", "Walls(kept, reasons)"],
    areas: ["Sum(a, b, c, d)", "Sum.read(text)", "area_sum(program, colour, widths, heights)",
            "area_sums(program, colour)"],
    lookers: ["is_cover(places, rows)", "shows_verdict(program, claim, paper)", "shows_alike(one, other, paper)",
              "shows_within(one, other, paper)", "shows_least(program, claim, paper, widths, heights)",
              "shows_leak(program, index, box, width, height, path)",
              "shows_fewest(program, indexes, claim, kept, reasons, paper)"],
    texts: ["program_text(program)", "claim_text(claim)", "paper_text(paper)"],
    reader: ["read_program(text)", "read_claim(text)", "read_paper(text)"],
    desk: ["Desk()", "Desk.ask(self, line)", "Desk.run(self, *lines)", "Desk.titled(self, name)"],
    errors: ["BadPlace(part)", "BadSize(part)", "BadColour(value)", "BadPixel(x, y)", "BadPicture(row)",
             "BadDeed(part)",
             "BadProgram(at)", "BadClaim(part)", "BadClass(part)", "TooMany(what, most)", "NoDeed(index)",
             "NoFlood(index)", "NoClass(value)", "Fails(width, height)", "Gap(x, y)", "BadText(line, word)",
             "NoName(name)", "NoRow(word)"],
}
# Called objects, and what `singles`, `holds` and the like are called with in each class of claims and of deeds.
CALLED = {places: ["Place(self, size)"], boxes: ["Box(self, width, height)"],
          programs: ["Program(self, width, height)"], areas: ["Sum(self, width, height)"], desk: ["Desk(self, line)"]}


def found_at(module, path):
    """What stands in a module under a dotted name."""
    found = module
    for name in path.split("."):
        found = getattr(found, name)
    return found


def things():
    """Objects of all classes with an equality of their own, no two of them equal."""
    box, other = Box(0, 1, 2, 3), Box(0, 1, 2, 4)
    found = [Place(1, 0), Place(0, 1), Picture(["1"]), Picture(["0"]), box, other, Fill(box, 1), Fill(other, 1),
             Fill(box, 0),
             Frame(box, 1), Frame(box, 1, 2), Flood(1, 0, 1), Flood(0, 1, 1), Copy(box, 1, 0), Copy(box, 0, 1),
             Flip("across"), Flip("down"), Swap(1, 0), Swap(0, 1), Grow(1), Grow(0), Again(1), Again(0),
             Again(1, Grow(1)),
             When(1, 0, 1, []), When(1, 0, 1, [Grow(1)]), When(1, 0, 1, [], [Grow(1)]), Program(), Program(Grow(1)),
             Program(Again(1)), Strips(Program(), 1, 2), Strips(Program(), 2, 1), ColourAt(1, 0, 1), ColourAt(0, 1, 1),
             NoneLeft(1), NoneLeft(0), Covered(box, 1), Covered(box, 0), Mirrored("across"), Mirrored("down"),
             Held(1, box), Held(0, box), Both(NoneLeft(1), NoneLeft(0)), Both(NoneLeft(0), NoneLeft(1)),
             Either(NoneLeft(1), NoneLeft(0)), Not(NoneLeft(1)), Not(Not(NoneLeft(1))), Sizes(1), Sizes(1, 1), Sizes(3),
             No(1, 1, None), No(1, 2, None), Yes([Sizes(1)], [Sizes(2)]), Yes([Sizes(2)], [Sizes(1)]),
             floods.Leak(1, 1, ((0, 0),)), floods.Leak(2, 1, ((0, 0),)), walls.Walls((), ()), walls.Walls(None, ()),
             areas.Sum(1, 0, 0, 0), areas.Sum(0, 1, 0, 0)]
    return found


class Whole(Case):
    def test_parameters(self):
        for module, wanted in SIGNATURES.items():
            for line in wanted:
                found = found_at(module, line.split("(")[0])
                told = str(inspect.signature(found))
                self.assertEqual(line.split("(")[0] + told, line)
        for module, wanted in CALLED.items():
            for line in wanted:
                name = line.split("(")[0]
                self.assertEqual(name + str(inspect.signature(found_at(module, name).__call__)), line)
        for base in (Claim, deeds.Deed):
            for kind in base.__subclasses__():
                for name in ("holds", "fault", "singles", "on", "each"):
                    if hasattr(base, name):
                        self.assertEqual(inspect.signature(getattr(kind, name)), inspect.signature(getattr(base, name)))

    def test_equality(self):
        for at, one in enumerate(things()):
            for beside, other in enumerate(things()):
                self.same(one == other, at == beside)
                self.same(one != other, at != beside)
            for value in (None, True, False, 0, 1, "", str(one), [], (), {}, [one], (one,), {"a": one}, vars(one)):
                self.same(one == value, False)
                self.same(value == one, False)

    def test_errors(self):
        kinds = [kind for kind in vars(errors).values() if isinstance(kind, type) and kind is not HoldError]
        self.assertEqual(len(kinds), 19)
        for kind in kinds:
            self.assertEqual((kind.__bases__, issubclass(kind, ValueError)), ((HoldError,), True))
            names = list(inspect.signature(kind.__init__).parameters)[1:] if "__init__" in vars(kind) else []
            for value in VALUES:
                self.assertTrue(all(getattr(kind(*[value] * len(names)), name) is value for name in names))

    def test_arguments_that_change_later(self):
        rows, inner, others, row = ["01"], [Grow(1)], [Grow(2)], [Grow(3)]
        picture, when, program = Picture(rows), When(0, 0, 1, inner, others), Program.of(row)
        for changed in (rows, inner, others, row):
            changed.clear()
        self.assertEqual((picture.rows, when.deeds, when.others, program.deeds),
                         (("01",), (Grow(1),), (Grow(2),), (Grow(3),)))
        canvas = canvases.Canvas(2, 1)
        canvas.shown = picture
        shown = canvas.shown
        canvas[0, 0] = 7
        self.assertEqual((picture.rows, shown.rows, canvas.shown.rows), (("01",), ("01",), ("71",)))
        indexes = [0]
        found = walls.fewest(Program(Grow(1)), indexes, NoneLeft(1))
        indexes.append(1)
        self.assertEqual(found.kept, ())
        wide, high = [Sizes(1)], [Sizes(2)]
        verdict = Yes(wide, high)
        wide.clear()
        self.assertEqual((verdict.widths, verdict.paper), ([Sizes(1)], ("yes", ((1, None),), ((2, None),))))

    def test_lists_belong_to_the_caller(self):
        program = Program(Flood(0, 0, 2), Fill(WHOLE, 1))
        canvas = Strips(program, 3, 3)
        table = desk.Desk()
        calls = [lambda: edges.edges("across", program), lambda: player.regions_at(program, 3, 3, 0),
                 lambda: canvas.regions(0), lambda: table.run("show", "needless"),
                 lambda: judge.judge(program, NoneLeft(5)).widths, lambda: alike.alike(program, program).heights]
        for call in calls:
            found = call()
            kept = list(found)
            self.assertIs(type(found), list)
            self.assertGreater(len(found), 0)
            found.clear()
            self.assertEqual(call(), kept)
        for value in (program.deeds, canvas.columns, canvas.rows, canvas.regions(0)[0], table.titles,
                      alike.needless(program),
                      player.regions_at(program, 2, 2, 0)[0], Picture(["1"]).region(0, 0), Picture(["1"]).rows):
            self.assertIs(type(value), tuple)

    def test_generators(self):
        claim = NoneLeft(1)
        for call, error in (
                (lambda: player.frames(None, 1, 1), BadProgram(0)),
                (lambda: player.frames(FAR, 0, 0), BadSize("width")),
                (lambda: classes.pairs(FAR), TooMany("edges", 60)),
                (lambda: judge.failing(FAR, claim), TooMany("edges", 60)),
                (lambda: alike.parting(FAR, None), BadProgram(1)), (lambda: floods.reaches(FAR, 1), NoFlood(1)),
                (lambda: areas.area_sums(FAR, 10), BadColour(10)),
                (lambda: floods.reaches(FAR, 0), TooMany("edges", 60)),
                (lambda: areas.area_sums(FAR, 1), TooMany("edges", 60))):
            self.refused(error, lambda: next(call()))
        for found in (player.frames(Program(), 1, 1), classes.classes([]), classes.pairs(Program()),
                      judge.failing(Program(), NoneLeft(0)), alike.parting(Program(), Program(Fill(WHOLE, 1))),
                      floods.reaches(FAR.without(1), 0), areas.area_sums(Program(), 0), Program(Grow(1)).each(),
                      Grow(1).each(), claim.singles(), Strips(Program(), 1, 1).cells()):
            self.assertTrue(inspect.isgenerator(found))
            next(found)

    def test_true_is_no_integer_and_lists_are_no_tuples(self):
        picture, canvas, program = Picture(["11"]), canvases.Canvas(2, 2), Program(Grow(1), Flood(1, 1, 1))
        self.assertEqual([True in picture, True in Strips(program, 2, 2), True in Sizes(1), 1 in Sizes(1),
                          True in program],
                         [False, False, False, True, False])
        for call, error in (
                (lambda: Place(True, 0), errors.BadPlace("slope")), (lambda: Place(0, 0)(True), BadSize("size")),
                (lambda: picture[True, 0], errors.BadPixel(True, 0)),
                (lambda: canvas[0, False], errors.BadPixel(0, False)),
                (lambda: picture.area(True), BadColour(True)), (lambda: Box(True, 0, 0, 0), errors.BadPlace("x0")),
                (lambda: Frame(WHOLE, 1, True), BadDeed("thick")), (lambda: Again(True), BadDeed("times")),
                (lambda: program[True], errors.NoDeed(True)), (lambda: program * True, BadDeed("times")),
                (lambda: program.without(False), errors.NoDeed(False)), (lambda: Sizes(True), BadClass("low")),
                (lambda: Held(True, WHOLE), errors.BadClaim("index")),
                (lambda: Strips(program, 1, True), BadSize("height")),
                (lambda: floods.leak(program, False, WHOLE), NoFlood(False)),
                (lambda: areas.Sum(0, 0, 0, True), errors.BadClaim("d")),
                (lambda: walls.chosen(program, [False], []), errors.NoDeed(False)),
                (lambda: player.regions_at(program, True, 1, 0), BadSize("width")),
                (lambda: desk.Desk().titled(True), NoName(True))):
            self.refused(error, call)
        self.assertFalse(lookers.is_cover([], ((True, None), (2, None))))
        self.assertFalse(lookers.is_cover([], ([1, None], (2, None))))
        self.assertFalse(lookers.shows_leak(program, 0, Box(0, 1, 0, 1), 2, 2, ([1, 1],)))
        self.assertTrue(lookers.shows_leak(program, 0, Box(0, 1, 0, 1), 2, 2, [(1, 1)]))

    def test_a_call_that_raises_changes_nothing(self):
        canvas = canvases.Canvas(3, 2)
        canvas.fill(0, 2, 0, 1, 4)
        before = canvas.shown
        for call in (lambda: canvas.fill(0, 3, 0, 2, 10), lambda: canvas.flood(0, 0, None),
                     lambda: canvas.show(Picture(["1"])),
                     lambda: setattr(canvas, "shown", Picture(["1"])), lambda: player.play(None, canvas)):
            self.assertRaises(HoldError, call)
            self.assertEqual(canvas.shown, before)

    def test_edges_are_few_enough_everywhere(self):
        great = [lambda: Strips(FAR, 3, 3), lambda: NoneLeft(1).holds(FAR, 3, 3), lambda: NoneLeft(1).fault(FAR, 3, 3),
                 lambda: judge.judge(FAR, NoneLeft(1)), lambda: alike.needless(FAR), lambda: alike.trimmed(FAR),
                 lambda: floods.reach(FAR, 0, 3, 3), lambda: floods.leak(FAR, 0, WHOLE), lambda: alike.settled(FAR),
                 lambda: areas.area_sum(FAR, 1, Sizes(1), Sizes(1)), lambda: walls.fewest(FAR, [], NoneLeft(1)),
                 lambda: edges.edges("down", FAR), lambda: list(classes.pairs(FAR))]
        for call in great:
            self.refused(TooMany("edges", 60), call)
        self.assertEqual((str(FAR(3, 3))[0], len(list(player.frames(FAR, 2, 2)))), ("1", 20))
        self.assertEqual(from_left(1) + from_right(), from_right() + 1)
