"""Reading programs: first all words are taken, then the deeds are made in the order of the text."""

from heldfloods.deeds import Again, Copy, Fill, Flip, Flood, Frame, Grow, Swap, When
from heldfloods.errors import BadText
from heldfloods.programs import Program
from heldfloods.words import built_values

# What stands behind the first word of a line, by the letters of Words.take_value.
FORMS = {"fill": "bc", "frame": "bck", "flood": "ppc", "copy": "bpp", "flip": "a", "swap": "cc", "grow": "c",
         "again": "c", "when": "ppc"}


class Block:
    """A block that is being read: how many deeds it has, and how many others, behind an else; None ahead of it."""

    def __init__(self, name, values):
        self.name = name
        self.taken = values
        self.many = 0
        self.rest = None

    def count_deed(self):
        """Counts one more deed, or one more of the others."""
        if self.rest is None:
            self.many = self.many + 1
        else:
            self.rest = self.rest + 1

    def may_have_else(self):
        """Whether an else may stand now."""
        return self.name == "when" and self.rest is None

    def may_end(self):
        """Whether an end may stand now."""
        return self.name != "" and self.rest != 0


class Draft:
    """A program that is being read: the blocks that are open, and what is to be made, in the order of the text."""

    def __init__(self):
        # The program itself stands around all blocks, and has no end.
        self._blocks = [Block("", [])]
        self.made = []

    def read_line(self, words):
        """Reads a line."""
        name = words.take()
        block = self._blocks[-1]
        if name in FORMS:
            values = words.take_values(FORMS[name])
            block.count_deed()
            if name in ("again", "when"):
                self._blocks.append(Block(name, values))
            else:
                self.made.append((name, values, 0, 0))
        elif name == "else" and block.may_have_else():
            block.rest = 0
        elif name == "end" and block.may_end():
            self._blocks.pop()
            self.made.append((block.name, block.taken, block.many, 0 if block.rest is None else block.rest))
        else:
            words.refuse_last()
        words.finish()

    def is_whole(self):
        """Whether no block is open."""
        return len(self._blocks) == 1


def program_of(rows, line, word):
    """The program whose text has these lines; raises BadText with this line and this word if an end is missing."""
    if rows[0].skip("none"):
        rows[0].finish()
        if len(rows) > 1:
            rows[1].refuse(0)
        return Program()
    draft = Draft()
    for words in rows:
        draft.read_line(words)
    if not draft.is_whole():
        raise BadText(line, word)
    return made_program(draft.made)


def made_program(made):
    """The program of some deeds, each told by its name, its values, and how many deeds and others a block has."""
    stack = []
    for name, values, many, rest in made:
        others = taken_off(stack, rest)
        deeds = taken_off(stack, many)
        stack.append(made_deed(name, built_values(values), deeds, others))
    return Program(*stack)


def taken_off(stack, many):
    """The list of so many last items of a stack, which loses them."""
    begin = len(stack) - many
    found = stack[begin:]
    del stack[begin:]
    return found


def made_deed(name, values, deeds, others):
    """The deed with this name and these values."""
    if name == "fill":
        return Fill(*values)
    if name == "frame":
        return Frame(*values)
    if name == "flood":
        return Flood(*values)
    if name == "copy":
        return Copy(*values)
    if name == "flip":
        return Flip(*values)
    if name == "swap":
        return Swap(*values)
    if name == "grow":
        return Grow(*values)
    if name == "again":
        return Again(values[0], *deeds)
    return When(values[0], values[1], values[2], deeds, others)
