"""Deeds, which change a canvas."""

from heldfloods.boxes import Box
from heldfloods.checks import check_axis, check_colour, is_int, is_int_in
from heldfloods.errors import BadDeed
from heldfloods.places import checked_place


class Deed:
    """The base of all deeds; a deed that is nothing more changes nothing."""

    def on(self, canvas):
        """Does the deed to a canvas."""

    def each(self):
        """Yields the deed, and then the deeds of its blocks."""
        yield self

    def __invert__(self):
        return self

    def __eq__(self, other):
        return type(other) is Deed

    def __str__(self):
        return "deed"


class Boxed(Deed):
    """A deed with a box."""


class Pointed(Deed):
    """A deed with a place (x, y)."""


class Coloured(Deed):
    """A deed with a colour."""


class Blocked(Deed):
    """A deed with a block of deeds."""

    def each(self):
        """Yields the deed, and then what its deeds yield."""
        yield self
        for deed in self.deeds:
            yield from deed.each()


class Fill(Boxed, Coloured):
    """Gives a box a colour."""

    def __init__(self, box, colour):
        check_box(box)
        check_colour(colour)
        self.box = box
        self.colour = colour

    def on(self, canvas):
        """Does the deed to a canvas."""
        sides = self.box(canvas.width, canvas.height)
        canvas.fill(*sides, self.colour)

    def each(self):
        """Yields the deed."""
        yield self

    def __invert__(self):
        return Fill(~self.box, self.colour)

    def __eq__(self, other):
        return isinstance(other, Fill) and self.box == other.box and self.colour == other.colour

    def __str__(self):
        return f"fill {self.box} {self.colour}"


class Frame(Boxed, Coloured):
    """Gives the edge of a box a colour."""

    def __init__(self, box, colour, thick=1):
        check_box(box)
        check_colour(colour)
        if not is_int(thick) or thick < 1:
            raise BadDeed("thick")
        self.box = box
        self.colour = colour
        self.thick = thick

    def on(self, canvas):
        """Does the deed to a canvas."""
        x0, x1, y0, y1 = self.box(canvas.width, canvas.height)
        left, right, top, foot = x0 + self.thick, x1 - self.thick, y0 + self.thick, y1 - self.thick
        # What a thin box leaves free has no pixels, and the four bars would reach out of the box.
        if left >= right or top >= foot:
            canvas.fill(x0, x1, y0, y1, self.colour)
            return
        canvas.fill(x0, left, y0, y1, self.colour)
        canvas.fill(right, x1, y0, y1, self.colour)
        canvas.fill(x0, x1, y0, top, self.colour)
        canvas.fill(x0, x1, foot, y1, self.colour)

    def each(self):
        """Yields the deed."""
        yield self

    def __invert__(self):
        return Frame(~self.box, self.colour, self.thick)

    def __eq__(self, other):
        return (isinstance(other, Frame) and self.box == other.box and self.colour == other.colour
                and self.thick == other.thick)

    def __str__(self):
        return f"frame {self.box} {self.colour} {self.thick}"


class Flood(Pointed, Coloured):
    """Gives the region of a pixel a colour."""

    def __init__(self, x, y, colour):
        self.x = checked_place(x, "x")
        self.y = checked_place(y, "y")
        check_colour(colour)
        self.colour = colour

    def on(self, canvas):
        """Does the deed to a canvas."""
        canvas.flood(self.x(canvas.width), self.y(canvas.height), self.colour)

    def each(self):
        """Yields the deed."""
        yield self

    def __invert__(self):
        return Flood(~self.x - 1, self.y, self.colour)

    def __eq__(self, other):
        return (isinstance(other, Flood) and self.x == other.x and self.y == other.y
                and self.colour == other.colour)

    def __str__(self):
        return f"flood {self.x} {self.y} {self.colour}"


class Copy(Boxed, Pointed):
    """Copies a box to a place."""

    def __init__(self, box, x, y):
        check_box(box)
        self.box = box
        self.x = checked_place(x, "x")
        self.y = checked_place(y, "y")

    def on(self, canvas):
        """Does the deed to a canvas."""
        sides = self.box(canvas.width, canvas.height)
        canvas.copy_box(sides, self.x(canvas.width) - sides[0], self.y(canvas.height) - sides[2])

    def each(self):
        """Yields the deed."""
        yield self

    def __invert__(self):
        return Copy(~self.box, ~(self.x + self.box.x1 - self.box.x0), self.y)

    def __eq__(self, other):
        return isinstance(other, Copy) and self.box == other.box and self.x == other.x and self.y == other.y

    def __str__(self):
        return f"copy {self.box} {self.x} {self.y}"


class Flip(Deed):
    """Flips the canvas across or down."""

    def __init__(self, axis):
        check_axis(axis)
        self.axis = axis

    def on(self, canvas):
        """Does the deed to a canvas."""
        canvas.flip(self.axis)

    def each(self):
        """Yields the deed."""
        yield self

    def __invert__(self):
        return self

    def __eq__(self, other):
        return isinstance(other, Flip) and self.axis == other.axis

    def __str__(self):
        return f"flip {self.axis}"


class Swap(Deed):
    """Gives the pixels of two colours the other one of the two."""

    def __init__(self, one, other):
        check_colour(one)
        check_colour(other)
        self.one = one
        self.other = other

    def on(self, canvas):
        """Does the deed to a canvas."""
        canvas.swap(self.one, self.other)

    def each(self):
        """Yields the deed."""
        yield self

    def __invert__(self):
        return self

    def __eq__(self, other):
        return isinstance(other, Swap) and self.one == other.one and self.other == other.other

    def __str__(self):
        return f"swap {self.one} {self.other}"


class Grow(Coloured):
    """Gives the neighbours of all pixels of a colour this colour."""

    def __init__(self, colour):
        check_colour(colour)
        self.colour = colour

    def on(self, canvas):
        """Does the deed to a canvas."""
        canvas.grow(self.colour)

    def each(self):
        """Yields the deed."""
        yield self

    def __invert__(self):
        return self

    def __eq__(self, other):
        return isinstance(other, Grow) and self.colour == other.colour

    def __str__(self):
        return f"grow {self.colour}"


class Again(Blocked):
    """Does some deeds a number of times."""

    MOST = 9

    def __init__(self, times, *deeds):
        if not is_int_in(times, 0, Again.MOST + 1):
            raise BadDeed("times")
        check_deeds(deeds, "deeds")
        self.times = times
        self.deeds = deeds

    def on(self, canvas):
        """Does the deed to a canvas."""
        for _ in range(self.times):
            do_all(self.deeds, canvas)

    def each(self):
        """Yields the deed, and then what its deeds yield."""
        yield self
        for deed in self.deeds:
            yield from deed.each()

    def __invert__(self):
        deeds = [~deed for deed in self.deeds]
        return Again(self.times, *deeds)

    def __eq__(self, other):
        return isinstance(other, Again) and self.times == other.times and self.deeds == other.deeds

    def __str__(self):
        return "\n".join([f"again {self.times}", *deed_texts(self.deeds), "end"])


class When(Pointed, Coloured, Blocked):
    """Does some deeds if a pixel has a colour, and others if not."""

    def __init__(self, x, y, colour, deeds, others=()):
        self.x = checked_place(x, "x")
        self.y = checked_place(y, "y")
        check_colour(colour)
        check_deeds(deeds, "deeds")
        check_deeds(others, "others")
        self.colour = colour
        self.deeds = tuple(deeds)
        self.others = tuple(others)

    def on(self, canvas):
        """Does the deed to a canvas."""
        do_all(self.deeds if self.applies(canvas) else self.others, canvas)

    def applies(self, canvas):
        """Whether the deeds, not the others, are to be done to a canvas as it is."""
        return canvas.has(self.x(canvas.width), self.y(canvas.height), self.colour)

    def each(self):
        """Yields the deed, and then what its deeds and its others yield."""
        yield self
        for deed in self.deeds + self.others:
            yield from deed.each()

    def __invert__(self):
        # Its own place is told ahead of those in its blocks if both are too far out.
        x = checked_place(~self.x - 1, "x")
        deeds = [~deed for deed in self.deeds]
        others = [~deed for deed in self.others]
        return When(x, self.y, self.colour, deeds, others)

    def __eq__(self, other):
        return (isinstance(other, When) and self.x == other.x and self.y == other.y
                and self.colour == other.colour and self.deeds == other.deeds and self.others == other.others)

    def __str__(self):
        head = [f"when {self.x} {self.y} {self.colour}", *deed_texts(self.deeds)]
        if self.others:
            return "\n".join([*head, "else", *deed_texts(self.others), "end"])
        return "\n".join([*head, "end"])


def check_box(value):
    """Raises BadDeed for any value that is no box."""
    if not isinstance(value, Box):
        raise BadDeed("box")


def check_deeds(value, part):
    """Raises BadDeed with the name of the part for any value that is no list or tuple of deeds."""
    if not isinstance(value, (list, tuple)) or not all([isinstance(deed, Deed) for deed in value]):
        raise BadDeed(part)


def do_all(deeds, canvas):
    """Does some deeds to a canvas, one after another."""
    for deed in deeds:
        deed.on(canvas)


def deed_texts(deeds):
    """The list of the texts of some deeds."""
    return [str(deed) for deed in deeds]
