"""Programs: rows of deeds, done on a canvas that has the colour 0 alone."""

from heldfloods.canvases import Canvas
from heldfloods.checks import is_int, is_int_in
from heldfloods.deeds import Again, Deed, Flood, When, do_all
from heldfloods.errors import BadDeed, BadProgram, NoDeed, NoFlood, TooMany


class Program:
    """A row of deeds."""

    SAID = 16
    DONE = 48
    DEEP = 4

    def __init__(self, *deeds):
        for at, deed in enumerate(deeds):
            if not isinstance(deed, Deed):
                raise BadProgram(at)
        self.deeds = deeds
        self._said = len(said_deeds(deeds))
        self._done = most_done(deeds)
        self._deep = depth(deeds)
        self._floods = floods_said(deeds)
        if self._said > Program.SAID:
            raise TooMany("said", Program.SAID)
        if self._done > Program.DONE:
            raise TooMany("done", Program.DONE)
        if self._deep > Program.DEEP:
            raise TooMany("deep", Program.DEEP)

    @classmethod
    def of(cls, deeds):
        """The program with the deeds of a list or tuple."""
        if not isinstance(deeds, (list, tuple)):
            raise BadProgram(0)
        return cls(*deeds)

    @property
    def said(self):
        """How many deeds are said, those in blocks too."""
        return self._said

    @property
    def done(self):
        """How many deeds are done at most."""
        return self._done

    @property
    def deep(self):
        """How deep the deepest deed is, 0 without deeds."""
        return self._deep

    @property
    def floods(self):
        """How many Flood deeds are said."""
        return self._floods

    def each(self):
        """Yields the deeds, those of a block behind it."""
        for deed in self.deeds:
            yield from deed.each()

    def __len__(self):
        return len(self.deeds)

    def __getitem__(self, at):
        many = len(self.deeds)
        if not is_int_in(at, -many, many):
            raise NoDeed(at)
        return self.deeds[at]

    def __iter__(self):
        # Without this Python would ask for items until one is missing, and meet NoDeed.
        raise TypeError("a program is not iterated over: take its deeds")

    def __contains__(self, x):
        return x in self.deeds

    def __add__(self, other):
        if isinstance(other, Program):
            deeds = self.deeds + other.deeds
            return Program(*deeds)
        if isinstance(other, Deed):
            return Program(*self.deeds, other)
        return NotImplemented

    def __radd__(self, other):
        if not isinstance(other, Deed):
            return NotImplemented
        return Program(other, *self.deeds)

    def __iadd__(self, other):
        return self + other

    def __mul__(self, other):
        if not is_int(other) or other < 0:
            raise BadDeed("times")
        # Any deed so often is too many; more of them might not fit into the memory.
        times = other if other <= Program.SAID else Program.SAID + 1
        deeds = self.deeds * times
        return Program(*deeds)

    def __rmul__(self, other):
        return self * other

    def __imul__(self, other):
        return self * other

    def __invert__(self):
        deeds = [~deed for deed in self.deeds]
        return Program(*deeds)

    def without(self, k):
        """The program without the deed k."""
        if not is_int_in(k, 0, len(self.deeds)):
            raise NoDeed(k)
        deeds = self.deeds[:k] + self.deeds[k + 1:]
        return Program(*deeds)

    def exchanged(self, k):
        """The program with the deeds k and k + 1 in the place of each other."""
        if not is_int_in(k, 0, len(self.deeds) - 1):
            raise NoDeed(k)
        deeds = list(self.deeds)
        deeds[k], deeds[k + 1] = deeds[k + 1], deeds[k]
        return Program(*deeds)

    def __call__(self, width, height):
        canvas = Canvas(width, height)
        do_all(self.deeds, canvas)
        return canvas.picture()

    def __eq__(self, other):
        return isinstance(other, Program) and self.deeds == other.deeds

    def __str__(self):
        if not self.deeds:
            return "none"
        return "\n".join([str(deed) for deed in self.deeds])


def said_deeds(deeds):
    """The list of some deeds, those of a block behind it."""
    said = []
    for deed in deeds:
        said.append(deed)
        said.extend(said_deeds(inner_deeds(deed)))
    return said


def floods_said(deeds):
    """How many of some deeds are Floods, those in their blocks too."""
    return len([deed for deed in said_deeds(deeds) if isinstance(deed, Flood)])


def most_done(deeds):
    """How many of some deeds are done at most, those in their blocks too."""
    many = 0
    for deed in deeds:
        if isinstance(deed, Again):
            many = many + deed.times * most_done(deed.deeds)
        elif isinstance(deed, When):
            many = many + 1 + most_done(deed.deeds) + most_done(deed.others)
        else:
            many = many + 1
    return many


def depth(deeds):
    """How deep the deepest of some deeds is, 0 without deeds."""
    deepest = 0
    for deed in deeds:
        deep = 1 + depth(inner_deeds(deed))
        if deep > deepest:
            deepest = deep
    return deepest


def inner_deeds(deed):
    """The tuple of the deeds in the blocks of a deed, without those within these."""
    if isinstance(deed, Again):
        return deed.deeds
    if isinstance(deed, When):
        return deed.deeds + deed.others
    return ()


def check_program(value, at):
    """Raises BadProgram with the index of the argument for any value that is no program."""
    if not isinstance(value, Program):
        raise BadProgram(at)


def check_flood(program, index):
    """Raises NoFlood for any value that is no number of a flood of the program."""
    if not is_int_in(index, 0, program.floods):
        raise NoFlood(index)
