"""The document's definitions, pixel by pixel, as plainly as can be: what the program is compared with."""

from heldfloods.boxes import Box
from heldfloods.claims import Both, ColourAt, Covered, Either, Held, Mirrored, NoneLeft, Not
from heldfloods.deeds import Again, Copy, Fill, Flip, Flood, Frame, Grow, Swap, When
from heldfloods.places import Place, from_left, from_middle, from_right
from heldfloods.programs import Program


def at(place, size):
    return place.slope * (size // 2) + place.offset + place.odd * (size % 2)


def sides(box, width, height):
    return at(box.x0, width), at(box.x1, width), at(box.y0, height), at(box.y1, height)


def blank(width, height):
    return {(x, y): 0 for y in range(height) for x in range(width)}


def inside(pixel, box):
    x0, x1, y0, y1 = box
    return x0 <= pixel[0] < x1 and y0 <= pixel[1] < y1


def region(pixels, start):
    found, rest = {start}, [start]
    while rest:
        x, y = rest.pop()
        for near in ((x - 1, y), (x + 1, y), (x, y - 1), (x, y + 1)):
            if near not in found and pixels.get(near) == pixels[start]:
                found.add(near)
                rest.append(near)
    return found


def do(deed, pixels, width, height):
    """What a deed makes of the pixels of a canvas, a dict of colours."""
    new = dict(pixels)
    if isinstance(deed, Fill):
        box = sides(deed.box, width, height)
        new.update({pixel: deed.colour for pixel in pixels if inside(pixel, box)})
    elif isinstance(deed, Frame):
        box = x0, x1, y0, y1 = sides(deed.box, width, height)
        t = deed.thick
        for x, y in pixels:
            if inside((x, y), box) and (x < x0 + t or x >= x1 - t or y < y0 + t or y >= y1 - t):
                new[x, y] = deed.colour
    elif isinstance(deed, Flood):
        start = at(deed.x, width), at(deed.y, height)
        if start in pixels:
            new.update({pixel: deed.colour for pixel in region(pixels, start)})
    elif isinstance(deed, Copy):
        box = sides(deed.box, width, height)
        for i, j in pixels:
            to = i + at(deed.x, width) - box[0], j + at(deed.y, height) - box[2]
            if inside((i, j), box) and to in pixels:
                new[to] = pixels[i, j]
    elif isinstance(deed, Flip):
        for x, y in pixels:
            to = (width - 1 - x, y) if deed.axis == "across" else (x, height - 1 - y)
            new[to] = pixels[x, y]
    elif isinstance(deed, Swap):
        exchange = {deed.one: deed.other, deed.other: deed.one}
        new = {pixel: exchange.get(colour, colour) for pixel, colour in pixels.items()}
    elif isinstance(deed, Grow):
        for x, y in pixels:
            if deed.colour in [pixels.get(near) for near in ((x - 1, y), (x + 1, y), (x, y - 1), (x, y + 1))]:
                new[x, y] = deed.colour
    elif isinstance(deed, Again):
        for inner in list(deed.deeds) * deed.times:
            new = do(inner, new, width, height)
    else:
        there = pixels.get((at(deed.x, width), at(deed.y, height))) == deed.colour
        for inner in deed.deeds if there else deed.others:
            new = do(inner, new, width, height)
    return new


def rows(pixels, width, height):
    return tuple("".join(str(pixels[x, y]) for x in range(width)) for y in range(height))


def paint(program, width, height):
    """The rows of the picture of a program."""
    pixels = blank(width, height)
    for deed in program.deeds:
        pixels = do(deed, pixels, width, height)
    return rows(pixels, width, height)


def floods_in(deed):
    return sum(isinstance(inner, Flood) for inner in deed.each())


def unrolled(deeds, number, pixels, width, height):
    """Yields (deed, number of a flood, pixels ahead of it, pixels behind it), in time; the deeds have no own numbers."""
    for deed in deeds:
        if isinstance(deed, Again):
            rounds = [(deed.deeds, number)] * deed.times
        elif isinstance(deed, When):
            there = pixels.get((at(deed.x, width), at(deed.y, height))) == deed.colour
            ahead = sum(floods_in(inner) for inner in deed.deeds)
            rounds = [(deed.deeds, number) if there else (deed.others, number + ahead)]
        else:
            behind = do(deed, pixels, width, height)
            yield deed, number, pixels, behind
            pixels, rounds = behind, []
        for inner, first in rounds:
            for step in unrolled(inner, first, pixels, width, height):
                pixels = step[3]
                yield step
        number += floods_in(deed)


def history(program, width, height):
    """What is done by a program, as `unrolled` tells it."""
    return list(unrolled(program.deeds, 0, blank(width, height), width, height))


def flood_regions(program, width, height, index):
    """The regions of a flood, in time, each as a set."""
    found = []
    for deed, number, pixels, _ in history(program, width, height):
        if isinstance(deed, Flood) and number == index:
            start = at(deed.x, width), at(deed.y, height)
            if start in pixels:
                found.append(region(pixels, start))
    return found


def in_order(pixels):
    return tuple(sorted(pixels, key=lambda pixel: (pixel[1], pixel[0])))


def colour_of(deeds, pixel, width, height):
    """The colour of a pixel behind some deeds, none of them a Flood, an Again or a When, on a canvas of any size."""
    x, y = pixel
    if not deeds:
        return 0
    deed, rest = deeds[-1], deeds[:-1]
    if isinstance(deed, (Fill, Frame)):
        x0, x1, y0, y1 = sides(deed.box, width, height)
        t = deed.thick if isinstance(deed, Frame) else None
        if inside(pixel, (x0, x1, y0, y1)) and (
                t is None or x < x0 + t or x >= x1 - t or y < y0 + t or y >= y1 - t):
            return deed.colour
        return colour_of(rest, pixel, width, height)
    if isinstance(deed, Flip):
        to = (width - 1 - x, y) if deed.axis == "across" else (x, height - 1 - y)
        return colour_of(rest, to, width, height)
    if isinstance(deed, Swap):
        old = colour_of(rest, pixel, width, height)
        return {deed.one: deed.other, deed.other: deed.one}.get(old, old)
    if isinstance(deed, Copy):
        box = sides(deed.box, width, height)
        source = x - at(deed.x, width) + box[0], y - at(deed.y, height) + box[2]
        if inside(source, box) and inside(source, (0, width, 0, height)):
            return colour_of(rest, source, width, height)
        return colour_of(rest, pixel, width, height)
    for near in ((x - 1, y), (x + 1, y), (x, y - 1), (x, y + 1)):
        if inside(near, (0, width, 0, height)) and colour_of(rest, near, width, height) == deed.colour:
            return deed.colour
    return colour_of(rest, pixel, width, height)


def outcome(claim, program, width, height):
    """Whether a claim holds for a program on a canvas, and its fault."""
    if isinstance(claim, Not):
        return not outcome(claim.claim, program, width, height)[0], None
    if isinstance(claim, Both):
        first = outcome(claim.one, program, width, height)
        return first if not first[0] else outcome(claim.other, program, width, height)
    if isinstance(claim, Either):
        first, second = (outcome(one, program, width, height) for one in (claim.one, claim.other))
        return (True, None) if first[0] or second[0] else first
    wrong = wrong_pixels(claim, program, width, height)
    return (False, in_order(wrong)[0]) if wrong else (True, None)


def wrong_pixels(claim, program, width, height):
    """The pixels at which a claim of the first five classes fails."""
    signs = paint(program, width, height)
    pixels = {(x, y): int(signs[y][x]) for y in range(height) for x in range(width)}
    if isinstance(claim, ColourAt):
        point = at(claim.x, width), at(claim.y, height)
        return [point] if pixels.get(point, claim.colour) != claim.colour else []
    if isinstance(claim, NoneLeft):
        return [pixel for pixel in pixels if pixels[pixel] == claim.colour]
    if isinstance(claim, Covered):
        box = sides(claim.box, width, height)
        return [pixel for pixel in pixels if inside(pixel, box) and pixels[pixel] != claim.colour]
    if isinstance(claim, Mirrored):
        across = claim.axis == "across"
        return [(x, y) for x, y in pixels
                if pixels[x, y] != pixels[(width - 1 - x, y) if across else (x, height - 1 - y)]]
    box = sides(claim.box, width, height)
    found = flood_regions(program, width, height, claim.index)
    return [pixel for pixel in pixels if not inside(pixel, box) and any(pixel in one for one in found)]


def canvases(most_wide, most_high):
    """The sizes of all canvases up to these, from the least on."""
    sizes = [(width, height) for width in range(1, most_wide + 1) for height in range(1, most_high + 1)]
    return sorted(sizes, key=lambda size: (size[0] + size[1], size[0]))


def edge_set(axis, program):
    """The edges of a program: a set of the three integers of each."""
    return edges_of(axis, program.deeds, {(0, 0, 0), (2, 0, 1)})


def numbers(place):
    return place.slope, place.offset, place.odd


def plus(one, other, sign=1):
    return tuple(a + sign * b for a, b in zip(one, other))


def edges_of(axis, deeds, found):
    """The edges found, and what some deeds add to them, in their order."""
    across = axis == "across"
    for deed in deeds:
        if isinstance(deed, (Fill, Frame, Copy)):
            box = deed.box
            begin, end = (numbers(box.x0), numbers(box.x1)) if across else (numbers(box.y0), numbers(box.y1))
            found = found | {begin, end}
            if isinstance(deed, Frame):
                found = found | {plus(begin, (0, deed.thick, 0)), plus(end, (0, -deed.thick, 0))}
            if isinstance(deed, Copy):
                by = plus(numbers(deed.x if across else deed.y), begin, -1)
                found = found | {plus(one, by) for one in found}
        elif isinstance(deed, (Flood, When)):
            point = numbers(deed.x if across else deed.y)
            found = found | {point, plus(point, (0, 1, 0))}
            if isinstance(deed, When):
                found = edges_of(axis, deed.others, edges_of(axis, deed.deeds, found))
        elif isinstance(deed, Flip):
            if deed.axis == axis:
                found = found | {plus((2, 0, 1), one, -1) for one in found}
        elif isinstance(deed, Grow):
            found = found | {plus(one, (0, by, 0)) for one in found for by in (1, -1)}
        elif isinstance(deed, Again):
            for _ in range(deed.times):
                found = edges_of(axis, deed.deeds, found)
    return found


class Maker:
    """Makes deeds and programs from a random source."""

    def __init__(self, source):
        self.source = source

    def place(self):
        k = self.source.randint(-2, 4)
        kind = self.source.randint(0, 3)
        if kind == 3:
            return Place(self.source.randint(-1, 3), k, self.source.randint(-1, 2))
        return (from_left, from_right, from_middle)[kind](k)

    def box(self):
        if self.source.random() < 0.5:
            return Box(self.place(), self.place(), self.place(), self.place())
        return Box(from_left(self.source.randint(-1, 2)), from_right(self.source.randint(-1, 2)),
                   from_left(self.source.randint(-1, 2)), from_right(self.source.randint(-1, 2)))

    def colour(self):
        return self.source.randint(0, 3)

    def flood(self):
        return Flood(self.place(), self.place(), self.colour())

    def claim(self, floods, many=1):
        """A claim joined of so many, for a program with so many floods."""
        if self.source.random() < 0.2:
            return Not(self.claim(floods, many))
        if many > 1:
            joined = self.source.choice([Both, Either])
            return joined(self.claim(floods, many // 2), self.claim(floods, many - many // 2))
        kind = self.source.randint(0, 4 if floods else 3)
        if kind == 0:
            return ColourAt(self.place(), self.place(), self.colour())
        if kind == 1:
            return NoneLeft(self.colour())
        if kind == 2:
            return Covered(self.box(), self.colour())
        if kind == 3:
            return Mirrored(self.source.choice(["across", "down"]))
        return Held(self.source.randrange(floods), self.box())

    def deed(self, deep=0):
        kind = self.source.randint(0, 8 if deep < 2 else 6)
        if kind == 0:
            return Fill(self.box(), self.colour())
        if kind == 1:
            return Frame(self.box(), self.colour(), self.source.randint(1, 3))
        if kind == 2:
            return self.flood()
        if kind == 3:
            return Copy(self.box(), self.place(), self.place())
        if kind == 4:
            return Flip(self.source.choice(["across", "down"]))
        if kind == 5:
            return Swap(self.colour(), self.colour())
        if kind == 6:
            return Grow(self.colour())
        inner = [self.deed(deep + 1) for _ in range(self.source.randint(0, 2))]
        if kind == 7:
            return Again(self.source.randint(0, 2), *inner)
        return When(self.place(), self.place(), self.colour(), inner, [self.deed(deep + 1)])

    def program(self):
        deeds = [Frame(self.box(), self.colour()), Fill(self.box(), self.colour())]
        while len(deeds) < 5:
            deed = self.deed()
            if len(list(deed.each())) <= 4:
                deeds.append(deed)
        return Program(*deeds)
