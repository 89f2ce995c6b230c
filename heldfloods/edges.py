"""Edges: the places between which all pixels of a canvas have one colour.

Within the package an edge is the tuple of the three integers of its place, and a set of them a dict of True.
"""

from heldfloods.boxes import box_ends
from heldfloods.checks import check_axis
from heldfloods.deeds import Again, Boxed, Copy, Flip, Flood, Frame, Grow, When
from heldfloods.errors import TooMany
from heldfloods.places import Place, from_left, from_right, mirrored_parts, parts_of
from heldfloods.programs import Program

MOST = 60


def edges(axis, *things):
    """The list of the edges of programs and claims for an axis, ascending."""
    check_axis(axis)
    return [Place(*parts) for parts in ordered(edge_parts(axis, things))]


def edge_parts(axis, things):
    """The list of the edges of programs and claims, in any order."""
    found = loose_parts(axis, things)
    check_many(found)
    return found


def loose_parts(axis, things):
    """The same, but the claims may make them more than 60."""
    found = {}
    for thing in things:
        if isinstance(thing, Program):
            for parts in program_parts(axis, thing):
                found[parts] = True
    mirrors = False
    for thing in things:
        if not isinstance(thing, Program):
            for single in thing.singles():
                add_all(found, [parts_of(place) for place in single.places_on(axis)])
                mirrors = mirrors or single.mirrors(axis)
    if mirrors:
        add_all(found, [mirrored_parts(parts) for parts in list(found)])
    return list(found)


def program_parts(axis, program):
    """The list of the edges of one program."""
    found = {}
    add_all(found, [parts_of(from_left()), parts_of(from_right())])
    add_deeds(found, axis, program.deeds)
    return list(found)


def add_deeds(found, axis, deeds):
    """Adds what some deeds add."""
    for deed in deeds:
        if isinstance(deed, Again):
            for _ in range(deed.times):
                add_deeds(found, axis, deed.deeds)
        else:
            add_deed(found, axis, deed)
        if isinstance(deed, When):
            add_deeds(found, axis, deed.deeds)
            add_deeds(found, axis, deed.others)
        # No deed takes an edge away; and copies could make more of them than can be counted out.
        check_many(found)


def add_deed(found, axis, deed):
    """Adds what a deed adds by itself, without its blocks."""
    if isinstance(deed, Boxed):
        add_all(found, side_parts(axis, deed.box))
    if isinstance(deed, Frame):
        begin, end = side_parts(axis, deed.box)
        add_all(found, [shifted(begin, deed.thick), shifted(end, -deed.thick)])
    if isinstance(deed, (Flood, When)):
        add_all(found, point_parts(axis, deed))
    if isinstance(deed, Copy):
        begin, _ = side_parts(axis, deed.box)
        target, _ = point_parts(axis, deed)
        add_all(found, [carried(parts, begin, target) for parts in list(found)])
    if isinstance(deed, Flip) and deed.axis == axis:
        add_all(found, [mirrored_parts(parts) for parts in list(found)])
    if isinstance(deed, Grow):
        add_all(found, [shifted(parts, by) for parts in list(found) for by in (1, -1)])


def add_all(found, rows):
    """Adds some edges."""
    for parts in rows:
        found[parts] = True


def check_many(found):
    """Raises TooMany for more edges than the most."""
    if len(found) > MOST:
        raise TooMany("edges", MOST)


def side_parts(axis, box):
    """The begin and the end of a box on an axis."""
    begin, end = box_ends(box, axis)
    return parts_of(begin), parts_of(end)


def point_parts(axis, pointed):
    """What has a place (x, y) adds as a Flood does: its place on an axis, and this moved by 1."""
    parts = parts_of(pointed.x if axis == "across" else pointed.y)
    return parts, shifted(parts, 1)


def shifted(parts, by):
    """An edge moved by an integer."""
    return parts[0], parts[1] + by, parts[2]


def carried(parts, begin, target):
    """An edge moved as far as from one edge to another one."""
    return parts[0] + target[0] - begin[0], parts[1] + target[1] - begin[1], parts[2] + target[2] - begin[2]


def ordered(rows):
    """Some edges, ascending by slope, then offset, then odd."""
    table = {}
    for slope, offset, odd in rows:
        table.setdefault(slope, {}).setdefault(offset, []).append(odd)
    return [(slope, offset, odd)
            for slope in sorted([int(key) for key in table])
            for offset in sorted([int(key) for key in table[slope]])
            for odd in sorted([int(key) for key in table[slope][offset]])]


def values_at(rows, size):
    """The list of the integers that some edges are at a size."""
    half, rest = size // 2, size % 2
    return [slope * half + offset + odd * rest for slope, offset, odd in rows]
