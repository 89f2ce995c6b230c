"""Desks: a program, and programs and claims that are kept under names, handled by lines of words."""

from heldfloods.alike import alike, needless
from heldfloods.claimreader import claim_of
from heldfloods.claims import Claim
from heldfloods.errors import HoldError, NoName, NoRow
from heldfloods.floods import leak
from heldfloods.judge import judge, safe_from
from heldfloods.programreader import program_of
from heldfloods.programs import Program
from heldfloods.strips import Strips
from heldfloods.texts import paper_text, program_text
from heldfloods.words import Words, built_values

# What stands behind the first word of a line, ahead of a text, by the letters of Words.take_value.
FORMS = {"program": "", "add": "", "drop": "k", "turn": "k", "mirror": "", "keep": "n", "claim": "n", "use": "n",
         "undo": "", "show": "", "paint": "kk", "colour": "kkkk", "area": "ckk", "judge": "n", "safe": "n",
         "alike": "n", "needless": "", "leak": "kb"}
CHANGES = ("program", "add", "drop", "turn", "mirror", "keep", "claim", "use")


class Desk:
    """A current program, and things under names, with all changes that can be taken back."""

    def __init__(self):
        self._program = Program()
        self._things = {}
        # What the two were ahead of each change.
        self._past = []

    @property
    def current(self):
        """The current program."""
        return self._program

    @property
    def titles(self):
        """The ascending tuple of the names."""
        return tuple(sorted([str(name) for name in self._things]))

    def titled(self, name):
        """What is kept under a name."""
        if not isinstance(name, str) or name not in self._things:
            raise NoName(name)
        return self._things[name]

    def __len__(self):
        return len(self._past)

    def __call__(self, line):
        return self.ask(line)

    def run(self, *lines):
        """The list of the answers to some lines; if one of them raises an error, the desk stays as it is."""
        program, things, past = self._program, self._things, list(self._past)
        answers = []
        try:
            for line in lines:
                answers.append(self.ask(line))
        except HoldError:
            self._program, self._things, self._past = program, things, past
            raise
        return answers

    def ask(self, line):
        """Carries out a line, and returns its answer."""
        if not isinstance(line, str):
            raise NoRow(line)
        words = line.split(" ")
        if words[0] not in FORMS:
            raise NoRow(words[0])
        values = taken_values(words)
        if words[0] in CHANGES:
            program, things = self.changed(words[0], values)
            self._past.append((self._program, self._things))
            self._program, self._things = program, things
            return "ok"
        if words[0] == "undo":
            return self.undone()
        return self.answer(words[0], values)

    def changed(self, word, values):
        """The program and the things under names behind a line that changes them."""
        program, things = self._program, self._things
        if word == "program":
            program = values[0]
        elif word == "add":
            program = program + values[0]
        elif word == "drop":
            program = program.without(values[0])
        elif word == "turn":
            program = program.exchanged(values[0])
        elif word == "mirror":
            program = ~program
        elif word == "use":
            program = self.program_named(values[0])
        elif word == "keep":
            things = {**things, values[0]: program}
        else:
            things = {**things, values[0]: values[1]}
        return program, things

    def undone(self):
        """Takes the last change back, and returns the answer."""
        if not self._past:
            return "nothing"
        self._program, self._things = self._past.pop()
        return "ok"

    def answer(self, word, values):
        """The answer to a line that changes nothing."""
        program = self._program
        if word == "show":
            return program_text(program).replace("\n", " ; ")
        if word == "paint":
            return " / ".join(program(values[0], values[1]).rows)
        if word == "colour":
            x, y, width, height = values
            return str(Strips(program, width, height)[x, y])
        if word == "area":
            colour, width, height = values
            return str(Strips(program, width, height).area(colour))
        if word == "judge":
            return paper_text(judge(program, self.claim_named(values[0])).paper)
        if word == "safe":
            least = safe_from(program, self.claim_named(values[0]))
            return "never" if least is None else str(least)
        if word == "alike":
            return paper_text(alike(program, self.program_named(values[0])).paper)
        if word == "needless":
            found = [str(k) for k in needless(program)]
            return " ".join(found) if found else "none"
        return leak_text(leak(program, *values))

    def program_named(self, name):
        """The program that is kept under a name."""
        if not isinstance(self._things.get(name), Program):
            raise NoName(name)
        return self._things[name]

    def claim_named(self, name):
        """The claim that is kept under a name."""
        if not isinstance(self._things.get(name), Claim):
            raise NoName(name)
        return self._things[name]


def taken_values(words):
    """The list of the values that the words of a line tell."""
    row = Words(words, 0, 0)
    word = row.take()
    values = row.take_values(FORMS[word])
    if word in ("program", "add"):
        return [program_of(text_rows(words, 1), 0, len(words))]
    if word == "claim":
        return [*values, claim_of(text_rows(words, 2))]
    row.finish()
    return built_values(values)


def text_rows(words, many):
    """The list of the words of each line of the text that stands behind so many words of a line of a desk.

    If there is none, it is read as an empty one is: its first word is refused.
    """
    rows, ahead = [], many
    for part in " ".join(words[many:]).split(" ; "):
        found = part.split(" ")
        rows.append(Words(found, 0, ahead))
        # The sign between two lines is counted, too.
        ahead = ahead + len(found) + 1
    return rows


def leak_text(found):
    """The text of a Leak, or of None."""
    if found is None:
        return "held"
    pixels = [f"{x},{y}" for x, y in found.path]
    return " ".join([str(found.width), str(found.height), *pixels])
