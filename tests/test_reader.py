"""Texts and readers: what is written is read back, and nothing else is read."""

import random

from heldfloods.boxes import Box
from heldfloods.claims import Both, ColourAt, Covered, Held, Mirrored, NoneLeft, Not
from heldfloods.deeds import Again, Copy, Deed, Fill, Flip, Flood, Frame, Grow, Swap, When
from heldfloods.errors import BadClaim, BadDeed, BadPlace, BadText, HoldError, TooMany
from heldfloods.judge import judge
from heldfloods.places import Place, from_left, from_middle, from_right
from heldfloods.programs import Program
from heldfloods.reader import read_claim, read_paper, read_program
from heldfloods.texts import claim_text, paper_text, program_text
from tests.helpers import Case, others
from tests.naive import Maker
from tests.plain_reader import wrong_word

READERS = {"program": read_program, "claim": read_claim, "paper": read_paper}
WRITERS = {"program": program_text, "claim": claim_text, "paper": paper_text}
FAR = 10 ** 12 + 1
LONG, LONGER = "9" * 60, "1" + "0" * 60
WORDS = ["", "0", "1", "9", "10", "-1", "-0", "01", "left", "right", "middle", "place", "fill", "frame", "flood",
         "copy",
         "flip", "swap", "grow", "again", "when", "else", "end", "none", "across", "down", "colour", "covered",
         "mirrored", "held", "both", "either", "not", "yes", "no", "and", "1..", "2..8", "3..4", "x", LONG, LONGER, ";",
         "+1", "1.0", "Left", "1\t", "3..3", "..", "..2", "2...4", "0..2", "1..03"]


def programs(source, many):
    """Programs with blocks of all kinds."""
    found = []
    while len(found) < many:
        maker = Maker(source)
        deeds = [maker.deed() for _ in range(source.randint(0, 3))]
        inner = [When(0, 1, 2, [], deeds[:1]), When(Place(1, 2, 3), 0, 4, deeds[:1], [Swap(0, 1)]), Again(3),
                 When(0, 0, 9, []), Again(1, Again(0, *deeds[:1]), Flip("down"))]
        try:
            found.append(Program(*deeds, *source.sample(inner, source.randint(0, 2))))
        except HoldError:
            continue
    return found


def papers(source, many):
    def row():
        low = source.choice([1, 2, 7, 10 ** 20])
        return low, source.choice([None, low, low + 2, low + 10 ** 30])

    found = [("no", source.randint(1, 99), source.choice([1, 10 ** 40])) for _ in range(many // 2)]
    def rows():
        return tuple(row() for _ in range(source.randint(1, 4)))

    return found + [("yes", rows(), rows()) for _ in range(many // 2)]


def claims(source, many):
    return [Maker(source).claim(source.randint(0, 3), source.randint(1, 5)) for _ in range(many)]


def things(source, many):
    return ([("program", one) for one in programs(source, many)] + [("claim", one) for one in claims(source, many)]
            + [("paper", one) for one in papers(source, many)])


class Written(Case):
    def test_texts(self):
        program = Program(Frame(Box.inside(1), 2, 3), When(0, from_right(1), 4, [Swap(1, 2)], [Again(0), Grow(3)]))
        self.same(program_text(program),
                  "frame left 1 right 1 left 1 right 1 2 3\nwhen left 0 right 1 4\nswap 1 2\nelse\n"
                                         "again 0\nend\ngrow 3\nend")
        self.same(program_text(program=Program()), "none")
        self.same(claim_text(claim=Both(Held(2, Box(0, 1, Place(3, 4, 5), 2)), ~Mirrored("down"))),
                  "both held 2 left 0 left 1 place 3 4 5 left 2 not mirrored down")
        self.same(paper_text(paper=("no", 3, 10 ** 40)), f"no 3 {10 ** 40}")
        self.same(paper_text(("yes", ((1, None), (2, 8), (10, None)), ((1, None), (2, None)))),
                  "yes 1.. 2..8 10.. and 1.. 2..")
        self.same(paper_text(("yes", ((4, None), (1, 1), (2, 2)), ((3, 3),))), "yes 4.. 1 2 and 3")

    def test_read_back(self):
        source = random.Random(101)
        for kind, thing in things(source, 150):
            if isinstance(thing, Not) and isinstance(thing.claim, Not) or "not not" in str(thing):
                continue
            text = WRITERS[kind](thing)
            self.same(READERS[kind](text), thing)
            self.same(READERS[kind](text=text), thing)
            self.same(WRITERS[kind](READERS[kind](text)), text)

    def test_papers_of_verdicts(self):
        for claim in (NoneLeft(1), NoneLeft(0), ColourAt(3, 4, 0), Mirrored("across")):
            for program in (Program(), Program(Fill(Box(2, from_right(1), 3, from_middle()), 1))):
                paper = judge(program, claim).paper
                self.same(read_paper(paper_text(paper)), paper)

    def test_every_deed_and_claim(self):
        box = Box(from_left(-1), from_right(-2), from_middle(3), Place(-4, 5, -6))
        deeds = [Fill(box, 9), Frame(box, 0, 10 ** 30), Flood(box.x1, box.y1, 1), Copy(box, box.x0, box.y0),
                 Flip("across"),
                 Flip("down"), Swap(3, 3), Grow(0), Again(9), When(box.x0, box.x1, 3, [])]
        for deed in deeds:
            self.same(read_program(str(deed)), Program(deed))
        for claim in (ColourAt(box.x0, box.y1, 4), NoneLeft(0), Covered(box, 3), Mirrored("across"), Mirrored("down"),
                      Held(0, box), Held(10 ** 59, box)):
            self.same(read_claim(str(claim)), claim)
            self.same(read_claim(f"not {claim}"), ~claim)


class Refused(Case):
    def look_at(self, kind, text):
        """That a text is read or refused as the grammar says; a constructor may refuse it behind that."""
        wanted = wrong_word(kind, text)
        if wanted is not None:
            self.refused(BadText(*wanted), READERS[kind], text)
            return
        try:
            self.same(WRITERS[kind](READERS[kind](text)), text)
        except BadText:
            raise
        except HoldError as error:
            self.assertIn(type(error), (BadPlace, BadDeed, BadClaim, TooMany))

    def test_every_word(self):
        source, many = random.Random(102), 0
        for kind, thing in things(source, 30):
            lines = [line.split(" ") for line in WRITERS[kind](thing).split("\n")]
            for line, words in enumerate(lines):
                for at in range(len(words) + 1):
                    left = [words[:at] + words[at + 1:]] if at < len(words) else []
                    changes = [words[:at] + [new] + words[at + step:] for new in source.sample(WORDS, 8)
                               for step in (0, 1)]
                    for changed in left + changes:
                        rows = lines[:line] + [changed] + lines[line + 1:]
                        self.look_at(kind, "\n".join(" ".join(row) for row in rows))
                        many += 1
        self.assertGreater(many, 9000)

    def test_every_line(self):
        source = random.Random(103)
        lines = ["end", "else", "none", "", "grow 1", "again 2", "when left 0 left 0 1", "fill left 0", "end end",
                 "else 1",
                 " grow 1", "grow 1 ", "grow  1"]
        for _ in range(3000):
            self.look_at("program", "\n".join(source.choice(lines[:7] if source.random() < 0.8 else lines)
                                              for _ in range(source.randint(1, 7))))
        for kind, thing in things(source, 25):
            rows = WRITERS[kind](thing).split("\n")
            for at in range(len(rows) + 1):
                for changed in (rows[:at] + rows[at + 1:], rows[:at] + [source.choice(lines)] + rows[at:]):
                    self.look_at(kind, "\n".join(changed))

    def test_cut_and_lengthened_texts(self):
        for kind, thing in things(random.Random(104), 12):
            text = WRITERS[kind](thing)
            for end in range(len(text)):
                self.look_at(kind, text[:end])
            for more in (" ", "\n", "  ", " x", "\nx", "\n\n", ";", " ;", "\t", "0"):
                self.look_at(kind, text + more)
                self.look_at(kind, more + text)

    def test_no_strings_and_other_strings(self):
        for kind, reader in READERS.items():
            for value in others(lambda value: type(value) is str):
                self.refused(BadText(0, 0), reader, value)
            for value in ("", " ", "\n", "x" * 2000, "across", "1", "0"):
                self.look_at(kind, value)
                self.refused(BadText(0, 0), reader, value)

    def test_words_that_cannot_stand(self):
        for text, line, word in (
                ("grow 1\n", 1, 0), ("none\n", 1, 0), ("none\nnone", 1, 0), ("none none", 0, 1), ("grow 1\nnone", 1, 0),
                ("again 1\nnone\nend", 1, 0), ("end", 0, 0), ("else", 0, 0), ("again 1\nelse\nend", 1, 0),
                ("when left 0 left 0 1\nelse\nend", 2, 0), ("when left 0 left 0 1\nelse\nelse", 2, 0),
                ("when left 0 left 0 1\nelse\ngrow 1\nelse", 3, 0), ("when left 0 left 0 1\nelse", 2, 0),
                ("when left 0 left 0 1\nagain 1\nelse\nend\nend", 2, 0), ("again 10", 0, 1), ("again -1", 0, 1),
                ("grow", 0, 1), ("grow 1 1", 0, 2), ("flood left 0 place 2 4 1 1", 0, 3),
                ("flood place 1 0 0 left 0 1", 0, 1),
                ("flood place 1 0 x left 0 1", 0, 4), ("frame left 0 left 0 left 0 left 0 1 -1", 0, 10),
                ("frame left 0 left 0 left 0 left 0 1", 0, 10), ("swap 1 10", 0, 2), ("flip up", 0, 1),
                ("grow 1\nend", 1, 0),
                ("again 2\nagain 2\nend", 3, 0), ("again 1\nend end", 1, 1), ("grow 1\n\ngrow 1", 1, 0)):
            self.refused(BadText(line, word), read_program, text)
        for text, line, word in (
                ("not not none 1", 0, 1), ("not both not none 1 not not none 1", 0, 6), ("none 1\nnone 1", 1, 0),
                ("none 1\n", 1, 0), ("both none 1", 0, 3), ("both none 1 none 2 none 3", 0, 5), ("held -1", 0, 1),
                ("none 12", 0, 1), ("mirrored", 0, 1), ("x", 0, 0), ("both", 0, 1), ("covered left 0", 0, 3),
                ("grow 1", 0, 0),
                ("none 1 \nx", 0, 2)):
            self.refused(BadText(line, word), read_claim, text)
        for text, line, word in (
                ("no", 0, 1), ("no 0 1", 0, 1), ("no 1 0", 0, 2), ("no 1 1 1", 0, 3), ("yes and 1..", 0, 1),
                ("yes 1..", 0, 2),
                ("yes 1.. and", 0, 3), ("yes 1.. and and", 0, 3), ("yes 1.. and 1.. and 1..", 0, 4),
                ("yes 3..3 and 1", 0, 1),
                ("yes 3..4 and 1", 0, 1), ("yes 3..1 and 1", 0, 1), ("yes 0.. and 1", 0, 1), ("yes 1.. and 1\n", 1, 0),
                ("no 1 1\nno 1 1", 1, 0), (f"no {LONGER} 1", 0, 1), (f"yes 1..{LONGER} and 1", 0, 1),
                ("yes 1 1", 0, 3)):
            self.refused(BadText(line, word), read_paper, text)

    def test_long_numbers(self):
        self.same(read_paper(f"no {LONG} 1"), ("no", int(LONG), 1))
        self.same(read_paper(f"yes 1..{LONG} and {LONG}.."), ("yes", ((1, int(LONG)),), ((int(LONG), None),)))
        self.same(read_claim(f"held {LONG} left 0 left 1 left 2 left 3"), Held(int(LONG), Box(0, 1, 2, 3)))
        self.refused(BadText(0, 1), read_claim, f"held {LONGER} left 0 left 1 left 2 left 3")
        self.same(read_program(f"frame left 0 left 0 left 0 left 0 1 {LONG}")[0].thick, int(LONG))
        self.refused(BadText(0, 10), read_program, f"frame left 0 left 0 left 0 left 0 1 {LONGER}")
        self.refused(BadText(0, 2), read_program, f"flood left {LONGER} left 0 1")
        self.refused(BadText(0, 2), read_program, f"flood left -{LONGER} left 0 1")
        self.refused(BadPlace("x"), read_program, f"flood left -{LONG} left 0 1")
        self.refused(BadClaim("y"), read_claim, f"colour left 0 place 3 4 -{LONG} 1")


class Built(Case):
    def test_constructors_in_order(self):
        box, far = "left 0 left 1 left 0 left 1", f"left {FAR} left 1 left 0 left 1"
        for text, error in (
                (f"frame {box} 1 0", BadDeed("thick")), (f"fill {far} 1", BadPlace("x0")),
                (f"frame {box} 1 0\nfill {far} 1", BadDeed("thick")),
                (f"fill {far} 1\nframe {box} 1 0", BadPlace("x0")),
                (f"frame {far} 1 0", BadPlace("x0")), (f"copy {box} left {FAR} left {FAR}", BadPlace("x")),
                (f"copy {box} left 0 right {FAR}", BadPlace("y")),
                (f"when left {FAR} left 0 1\nframe {box} 1 0\nend", BadDeed("thick")),
                (f"when left 0 left {FAR} 1\nelse\nframe {box} 1 0\nend", BadDeed("thick")),
                (f"when left 0 left {FAR} 1\nend\nframe {box} 1 0", BadPlace("y")),
                ("\n".join(["again 9\nagain 9\ngrow 1\nend\nend"] * 2), TooMany("done", 48)),
                ("\n".join(["grow 1"] * 17), TooMany("said", 16)),
                ("\n".join(["grow 1"] * 17 + [f"frame {box} 1 0"]), BadDeed("thick")),
                ("\n".join(["again 1"] * 4 + ["grow 1"] + ["end"] * 4), TooMany("deep", 4)),
                ("\n".join(["again 0"] * 150 + ["end"] * 150), TooMany("said", 16))):
            self.refused(error, read_program, text)
            self.refused(BadText(len(text.split("\n")), 0), read_program, text + "\n")
        none = " ".join(["both"] * 8 + ["none 1"] * 9)
        for text, error in (
                (none, TooMany("claims", 8)), (f"both colour left {FAR} left 0 1 {none}", BadClaim("x")),
                (f"both {none} colour left {FAR} left 0 1", TooMany("claims", 8)), (f"covered {far} 1", BadPlace("x0")),
                (f"held 3 {far}", BadPlace("x0")), (f"either covered {far} 1 colour left {FAR} left 0 1",
                                                    BadPlace("x0")),
                (f"either colour left 0 right {FAR} 1 covered {far} 1", BadClaim("y"))):
            self.refused(error, read_claim, text)
            self.refused(BadText(0, len(text.split(" "))), read_claim, text + " ")

    def test_claims_that_stand_deep(self):
        self.refused(BadText(0, 399), read_claim, " ".join(["both"] * 399))
        self.refused(BadText(0, 600), read_claim, " ".join(["not", "both"] * 200 + ["none", "1"] * 100))
        self.refused(TooMany("claims", 8), read_claim, " ".join(["either"] * 180 + ["none 1"] * 181))
        claim = read_claim(" ".join(["both not"] * 7 + ["none 1"] * 8))
        self.assertEqual(len(list(claim.singles())), 8)

    def test_what_is_read_is_of_its_kind(self):
        program = read_program("fill left 0 right 0 middle 0 place 3 2 1 4")
        self.assertIsInstance(program[0], Deed)
        self.assertEqual((program[0].box.x1, program[0].box.y1, program[0].colour), (from_right(), Place(3, 2, 1), 4))
        paper = read_paper("yes 2..4 1 and 3..")
        self.same(paper, ("yes", ((2, 4), (1, 1)), ((3, None),)))
