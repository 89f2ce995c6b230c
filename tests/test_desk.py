"""Desks: each line with its answer, what can be taken back, and what is refused."""

import random

from heldfloods.alike import alike, needless
from heldfloods.boxes import Box
from heldfloods.claims import Claim, Held, Mirrored, NoneLeft
from heldfloods.deeds import Again, Copy, Fill, Flip, Flood, Frame, Grow, Swap, When
from heldfloods.desk import Desk
from heldfloods.errors import (BadDeed, BadPixel, BadPlace, BadSize, BadText, HoldError, NoDeed, NoFlood, NoName, NoRow,
                               TooMany)
from heldfloods.floods import leak
from heldfloods.judge import judge, safe_from
from heldfloods.places import from_middle, from_right
from heldfloods.programs import Program
from heldfloods.strips import Strips
from heldfloods.texts import claim_text, paper_text, program_text
from tests.helpers import Case, others
from tests.naive import Maker
from tests.plain_reader import wrong_word

WHOLE = Box.whole()
RING = Program(Frame(WHOLE, 1), Flood(from_middle(), from_middle(), 2))
LONG, LONGER = "9" * 60, "1" + "0" * 60
FAR = 10 ** 12 + 1
STRANGE = ["", "-1", "01", "1.0", "x1", "A", "+1", LONGER, "a b"[1:], ";", "1\n"]


def line_of(program):
    return program_text(program).replace("\n", " ; ")


def state(desk):
    """All that can be seen of a desk."""
    return desk.current, desk.titles, [desk.titled(name) for name in desk.titles], len(desk)


class Lines(Case):
    def test_new(self):
        desk = Desk()
        self.same(state(desk), (Program(), (), [], 0))
        for name in ("current", "titles"):
            self.assertIsInstance(vars(Desk)[name], property)
        self.assertEqual([desk.ask("show"), desk("undo"), desk.run(), desk.ask(line="needless")],
                         ["none", "nothing", [], "none"])

    def test_programs(self):
        source = random.Random(111)
        for _ in range(60):
            maker, desk = Maker(source), Desk()
            one, other = maker.program(), Program(maker.deed(), When(0, 0, 1, [], [Again(0)]))
            self.same(desk.ask("program " + line_of(one)), "ok")
            self.same(desk.current, one)
            self.same(desk.ask("show"), line_of(one))
            try:
                both = one + other
            except TooMany as error:
                self.refused(error, desk.ask, "add " + line_of(other))
                both = one
            else:
                self.same(desk.ask("add " + line_of(other)), "ok")
            self.same(desk.current, both)
            k = source.randrange(len(both) - 1)
            self.assertEqual(desk.run(f"turn {k}", f"drop {k}", "mirror", "show"),
                             ["ok", "ok", "ok", line_of(~both.exchanged(k).without(k))])
            self.same(desk.current, ~both.exchanged(k).without(k))
            self.assertEqual([desk("undo") for _ in range(4)], ["ok"] * 4)
            self.same(desk.current, one if both != one else Program())

    def test_empty_blocks(self):
        desk = Desk()
        for text in ("again 2 ; end", "when left 0 left 0 1 ; end",
                     "again 1 ; again 0 ; end ; when left 0 left 0 1 ; end ; end",
                     "when left 0 left 0 1 ; else ; grow 1 ; end", "none"):
            self.assertEqual(desk.run("program " + text, "show"), ["ok", text])
        self.assertEqual(desk.run("program grow 1", "add none", "show"), ["ok", "ok", "grow 1"])

    def test_names(self):
        desk = Desk()
        self.assertEqual(desk.run("program grow 1", "keep b", "program grow 2", "keep abcdefgh", "claim a none 3",
                                  "keep b"),
                         ["ok"] * 6)
        self.same(desk.titles, ("a", "abcdefgh", "b"))
        self.same(desk.titled("b"), Program(Grow(2)))
        self.same(desk.titled(name="a"), NoneLeft(3))
        self.assertEqual(desk.run("program none", "use b", "show"), ["ok", "ok", "grow 2"])
        self.assertEqual(desk.run("claim b both none 1 not mirrored down", "claim a none 4"), ["ok", "ok"])
        self.same(desk.titled("b"), NoneLeft(1) & ~Mirrored("down"))
        self.refused(NoName("b"), desk.ask, "use b")
        self.refused(NoName("b"), desk.ask, "alike b")
        self.assertEqual(desk.run("keep b", "use b", "alike b"), ["ok", "ok", "yes 1 2 3.. 4.. and 1 2 3.. 4.."])
        self.refused(NoName("b"), desk.ask, "judge b")
        self.refused(NoName("b"), desk.ask, "safe b")
        for value in others(lambda value: False) + ["c", "A", "b "]:
            self.refused(NoName(value), desk.titled, value)

    def test_answers(self):
        source, held = random.Random(112), 0
        for _ in range(80):
            maker, desk = Maker(source), Desk()
            program, other, claim = maker.program() + maker.flood(), maker.program(), maker.claim(1, 2)
            if "not not" in str(claim):
                continue
            box = source.choice([maker.box(), WHOLE])
            desk.run("program " + line_of(other), "keep other", "program " + line_of(program),
                     "claim it " + claim_text(claim))
            width, height = source.randint(1, 6), source.randint(1, 5)
            x, y, colour = source.randrange(width), source.randrange(height), source.randrange(4)
            for line, wanted in (
                    (f"paint {width} {height}", lambda: " / ".join(program(width, height).rows)),
                    (f"colour {x} {y} {width} {height}", lambda: str(Strips(program, width, height)[x, y])),
                    (f"area {colour} {width} {height}", lambda: str(Strips(program, width, height).area(colour))),
                    (f"colour {x} 0 {10 ** 40} {height}", lambda: str(Strips(program, 10 ** 40, height)[x, 0])),
                    (f"area {colour} 3 {10 ** 40}", lambda: str(Strips(program, 3, 10 ** 40).area(colour))),
                    ("judge it", lambda: paper_text(judge(program, claim).paper)),
                    ("safe it", lambda: str(safe_from(program, claim) or "never")),
                    ("alike other", lambda: paper_text(alike(program, other).paper)),
                    ("needless", lambda: " ".join(str(k) for k in needless(program)) or "none"),
                    (f"leak 0 {box}", lambda: leaking(program, box))):
                before = state(desk)
                try:
                    told = wanted()
                except HoldError as error:
                    self.refused(error, desk.ask, line)
                else:
                    self.same(desk.ask(line), told)
                    held += told == "held"
                self.assertEqual(state(desk), before)
        self.assertGreater(held, 5)

    def test_undo(self):
        desk = Desk()
        lines = ["program grow 1", "keep a", "claim b none 1", "add grow 1", "turn 0", "mirror", "use a", "keep a",
                 "drop 0",
                 "claim a none 2"]
        seen = [state(desk)]
        for k in range(100):
            desk(lines[k % 10])
            desk("show")
            self.assertEqual(len(desk), k + 1)
            seen.append(state(desk))
        for k in range(100):
            self.assertEqual(state(desk), seen.pop())
            self.same(desk.ask("undo"), "ok")
        self.assertEqual((state(desk), len(seen)), (seen[0], 1))
        self.assertEqual([desk("undo"), desk("undo"), len(desk)], ["nothing", "nothing", 0])

    def test_undo_of_what_changed_nothing(self):
        desk = Desk()
        desk.run("program none", "mirror", "keep a", "keep a", "use a", "add none")
        self.assertEqual(len(desk), 6)
        self.assertEqual(desk.run(*["undo"] * 7), ["ok"] * 6 + ["nothing"])
        self.assertEqual(state(desk), (Program(), (), [], 0))

    def test_run(self):
        desk = Desk()
        desk.run("program grow 1", "claim a none 1")
        before = state(desk)
        for lines, error in (
                (["add grow 2", "keep b", "undo", "undo", "undo", "drop 9"], NoDeed(9)),
                (["undo", "undo", "undo", "claim a none 5", None], NoRow(None)),
                (["keep a", "judge a"], NoName("a")), (["mirror", "mirror", "show x"], BadText(0, 1)),
                ([""], NoRow("")), (["undo", "program " + " ; ".join(["grow 1"] * 17)], TooMany("said", 16))):
            self.refused(error, desk.run, *lines)
            self.assertEqual(state(desk), before)
        answers = desk.run("undo", "show", "undo", "show", "undo")
        self.assertEqual(answers, ["ok", "grow 1", "ok", "none", "nothing"])
        answers.clear()
        self.assertEqual(len(desk.titles), 0)

    def test_desks_have_nothing_in_common(self):
        one, other = Desk(), Desk()
        one.run("program grow 1", "keep a")
        self.assertEqual(state(other), (Program(), (), [], 0))


def leaking(program, box):
    found = leak(program, 0, box)
    if found is None:
        return "held"
    return f"{found.width} {found.height} " + " ".join(f"{x},{y}" for x, y in found.path)


class Refused(Case):
    def setUp(self):
        self.desk = Desk()
        self.desk.run("program " + line_of(RING), "keep ring", "claim held held 0 left 1 right 1 left 1 right 1",
                      "claim far held 7 left 0 left 1 left 0 left 1")
        self.before = state(self.desk)

    def tearDown(self):
        self.assertEqual(state(self.desk), self.before)

    def test_rows(self):
        for value in others(lambda value: type(value) is str):
            self.refused(NoRow(value), self.desk.ask, value)
            self.refused(NoRow(value), self.desk, value)
            self.refused(NoRow(value), self.desk.run, "mirror", value)
        for line, word in (("", ""), (" show", ""), ("Show", "Show"), ("shows 1", "shows"), ("show\n", "show\n"),
                           ("; show", ";"),
                           ("grow 1", "grow"), ("none", "none"), ("ask show", "ask"), ("show\tx 1", "show\tx")):
            self.refused(NoRow(word), self.desk.ask, line)

    def test_one_word_too_many_or_missing(self):
        right = ["drop 0", "turn 0", "mirror", "keep a", "use ring", "undo", "show", "paint 3 3", "colour 0 0 3 3",
                 "area 1 3 3",
                 "judge held", "safe held", "alike ring", "needless", "leak 0 left 1 right 1 left 1 place 1 2 3"]
        for line in right:
            words = line.split(" ")
            self.refused(BadText(0, len(words)), self.desk.ask, line + " x")
            self.refused(BadText(0, len(words)), self.desk.ask, line + " ")
            self.refused(BadText(0, len(words)), self.desk.ask, line + " ; show")
            for many in range(1, len(words)):
                self.refused(BadText(0, many), self.desk.ask, " ".join(words[:many]))
                self.refused(BadText(0, many), self.desk.ask, " ".join(words[:many] + [""] + words[many:]))
        for line, many in (("program", 1), ("add", 1), ("claim", 1), ("claim a", 2)):
            self.refused(BadText(0, many), self.desk.ask, line)
            self.refused(BadText(0, many), self.desk.ask, line + " ")

    def test_wrong_words(self):
        for word in STRANGE:
            for line, at in (("drop W", 1), ("turn W", 1), ("paint W 1", 1), ("paint 1 W", 2), ("colour W W W W", 1),
                             ("colour 0 W 3 3", 2), ("colour 0 0 3 W", 4), ("area W 0 0", 1), ("area 10 3 W", 1),
                             ("area 1 W 3", 2), ("leak W left 0", 1), ("leak 0 left W", 3), ("leak 9 W", 2)):
                if not (word == "-1" and line == "leak 0 left W"):
                    self.refused(BadText(0, at), self.desk.ask, line.replace("W", word))
        for name in ("", "A", "ab1", "a_b", "abcdefghi", "a\n", ";", "-", "\u00e9"):
            for line in ("keep N", "use N", "judge N", "safe N", "alike N", "claim N none 1", "claim N"):
                self.refused(BadText(0, 1), self.desk.ask, line.replace("N", name))
        self.refused(NoDeed(int(LONG)), self.desk.ask, f"drop {LONG}")
        self.refused(BadSize("width"), self.desk.ask, f"paint {LONG} 0")

    def test_texts(self):
        source = random.Random(113)
        for _ in range(150):
            maker = Maker(source)
            kind, head, text = source.choice([("program", "program", program_text(Program(maker.deed(), When(
                0, 0, 1, [maker.deed(1)], [Again(1)])))), ("claim", "claim name", claim_text(maker.claim(1, 4)))])
            words = text.replace("\n", " ; ").split(" ")
            for _ in range(12):
                at = source.randrange(len(words) + 1)
                new = words[:at] + source.choice([[], [";"], [""], ["end"], ["grow", "1"], ["not"], ["else"], ["none"]])
                new = " ".join(new + words[at + source.choice([0, 1]):])
                wrong = wrong_word(kind, new.replace(" ; ", "\n"))
                if wrong is None:
                    continue
                lines = new.split(" ; ")
                ahead = len(head.split(" ")) + sum(len(line.split(" ")) + 1 for line in lines[:wrong[0]]) + wrong[1]
                line = f"{head} {new}"
                self.refused(BadText(0, min(ahead, len(line.split(" ")))), self.desk.ask, line)

    def test_signs_between_lines(self):
        for line, at in (("program grow 1 ;", 3), ("program grow 1 ; ", 4), ("program ; grow 1", 1),
                         ("program grow 1 ; ; grow 2", 4),
                         ("program grow ; grow 1", 2), ("program grow 1 ;grow 2", 3), ("program again 2", 3),
                         ("program again 2 ; grow 1", 6), ("add again 2 ; ; end", 4),
                         ("program again 2 ; end ; end", 6),
                         ("program none ; grow 1", 3), ("program none ;", 2), ("claim a none 1 ; none 2", 5),
                         ("claim a none 1 ;", 4), ("claim a none ; none 1", 3), ("claim a not not none 1", 3),
                         ("claim ; none 1", 1),
                         ("program grow 1\ngrow 2", 2), ("program when left 0 left 0 1 ; else ; end", 10),
                         ("add none ; none", 3)):
            self.refused(BadText(0, at), self.desk.ask, line)

    def test_names_and_what_is_called(self):
        for line, error in (
                ("use held", NoName("held")), ("use x", NoName("x")), ("judge ring", NoName("ring")),
                ("safe x", NoName("x")),
                ("alike held", NoName("held")), ("alike x", NoName("x")), ("judge far", NoFlood(7)),
                ("safe far", NoFlood(7)),
                ("drop 2", NoDeed(2)), ("turn 1", NoDeed(1)), ("paint 0 0", BadSize("width")),
                ("paint 200 201", BadSize("height")),
                ("colour 0 0 0 0", BadSize("width")), (f"colour 0 0 1 {10 ** 40 + 1}", BadSize("height")),
                ("colour 3 0 3 1", BadPixel(3, 0)), ("area 1 1 0", BadSize("height")),
                ("leak 1 left 0 left 0 left 0 left 0", NoFlood(1)),
                (f"leak 1 left {FAR} left 0 left 0 left 0", BadPlace("x0")),
                ("leak 0 left 0 left 300 left 0 right 0 x", BadText(0, 10)),
                ("program again 9 ; again 9 ; grow 1 ; end ; end", TooMany("done", 48)),
                (f"add fill left 0 left 0 right {FAR} left 0 1", BadPlace("y0")),
                ("add frame left 0 left 0 left 0 left 0 1 0", BadDeed("thick")),
                ("add " + " ; ".join(["grow 1"] * 15), TooMany("said", 16)),
                ("claim x " + "both none 1 " * 8 + "none 1", TooMany("claims", 8))):
            self.refused(error, self.desk.ask, line)

    def test_mirror_that_is_too_far_out(self):
        self.desk.ask(f"program flood left -{10 ** 12} left 0 1")
        self.assertEqual(self.desk.ask("mirror"), "ok")
        self.desk.run("undo", "undo", f"program copy left -{10 ** 12} left 1 left 0 left 1 left {10 ** 12} left 0")
        before = state(self.desk)
        self.refused(BadPlace("x"), self.desk.ask, "mirror")
        self.assertEqual(state(self.desk), before)
        self.desk.ask("undo")

    def test_great_leaks(self):
        self.desk.run("program flood left 0 left 200 1", "show")
        self.refused(TooMany("pixels", 200), self.desk.ask, "leak 0 left 0 left 1 left 0 left 0")
        self.desk.run("program " + " ; ".join(["again 9", "grow 1", "end"] * 2), "claim a none 1")
        for line in ("judge a", "safe a", "area 1 3 3", "colour 0 0 3 3", "alike ring", "needless"):
            self.refused(TooMany("edges", 60), self.desk.ask, line)
        self.assertEqual(self.desk.run("undo", "undo", "undo"), ["ok"] * 3)


class Kinds(Case):
    def test_what_is_kept(self):
        desk = Desk()
        desk.run("program " + line_of(RING + Copy(WHOLE, 1, 1) + Swap(1, 2) + Flip("down") + Fill(WHOLE, 3)), "keep a",
                 "claim b held 3 left 0 left 1 left 2 place 1 2 3")
        self.assertIsInstance(desk.titled("a"), Program)
        self.assertIsInstance(desk.titled("b"), Claim)
        self.assertIsInstance(desk.titled("b"), Held)
        self.same(desk.titles, tuple(sorted(desk.titles)))
