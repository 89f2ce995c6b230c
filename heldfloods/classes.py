"""Classes of sizes: the rows of sizes at which places stand in one order."""

from heldfloods.checks import check_size, is_int
from heldfloods.edges import edge_parts
from heldfloods.errors import BadClass, TooMany
from heldfloods.places import parts_of

MOST = 2000


class Sizes:
    """The sizes low, low + 2 and so on, to high, or without end."""

    def __init__(self, low, high=None):
        if not is_int(low) or low < 1:
            raise BadClass("low")
        if high is not None and not (is_int(high) and high >= low and (high - low) % 2 == 0):
            raise BadClass("high")
        self.low = low
        self.high = high

    def __contains__(self, x):
        # This is asked for many sizes and classes: nothing is called for it, and most sizes lie beyond an end.
        if type(x) is not int or x < self.low:
            return False
        if self.high is not None and x > self.high:
            return False
        return (x - self.low) % 2 == 0

    def __eq__(self, other):
        return isinstance(other, Sizes) and self.low == other.low and self.high == other.high

    def __str__(self):
        if self.high is None:
            return f"{self.low}.."
        if self.high == self.low:
            return str(self.low)
        return f"{self.low}..{self.high}"


def classes(places):
    """Yields the classes of sizes of some places, ascending."""
    yield from sizes_of([parts_of(place) for place in places])


def class_of(places, size):
    """The class of a size."""
    check_size(size, "size")
    half, rest = size // 2, size % 2
    begins = class_begins([parts_of(place) for place in places], rest)
    begin = max([int(one) for one in begins if one <= half])
    behind = min([int(one) for one in begins if one > half], default=0)
    return class_from(begin, behind, rest)


def pairs(*things):
    """Yields the pairs of classes of the edges of programs and claims, in their order."""
    widths, heights = class_lists(edge_parts("across", things), edge_parts("down", things))
    yield from ordered_pairs(widths, heights)


def class_lists(across, down):
    """The list of the classes of widths and that of heights, for the edges of both axes."""
    widths, heights = sizes_of(across), sizes_of(down)
    if len(widths) * len(heights) > MOST:
        raise TooMany("pairs", MOST)
    return widths, heights


def ordered_pairs(widths, heights):
    """The list of all pairs of two lists of classes, by the sum of their lows, then by the low of the widths."""
    by_sum = {}
    for wide in widths:
        for high in heights:
            by_sum.setdefault(wide.low + high.low, []).append((wide, high))
    return [pair for low in sorted([int(key) for key in by_sum]) for pair in by_sum[low]]


def sizes_of(rows):
    """The ascending list of the classes of places that are told by their three integers."""
    found = {}
    for rest in (0, 1):
        begins = class_begins(rows, rest)
        for begin, behind in zip(begins, [*begins[1:], 0]):
            sizes = class_from(begin, behind, rest)
            found[sizes.low] = sizes
    return [found[low] for low in sorted([int(key) for key in found])]


def class_from(begin, behind, rest):
    """The class of the sizes with a rest whose halves are from begin on, and less than behind if this is not 0."""
    if behind == 0:
        return Sizes(2 * begin + rest)
    return Sizes(2 * begin + rest, 2 * behind - 2 + rest)


def class_begins(rows, rest):
    """The ascending list of the halves m at which a class of sizes 2 * m + rest begins."""
    least = 1 - rest
    begins = {least: True}
    lines = list({(slope, offset + odd * rest): True for slope, offset, odd in rows})
    for at, (slope, begin) in enumerate(lines):
        for other_slope, other_begin in lines[at + 1:]:
            if slope != other_slope:
                for change in changes(slope - other_slope, begin - other_begin):
                    if change > least:
                        begins[change] = True
    return sorted([int(one) for one in begins])


def changes(slope, begin):
    """The least m at which slope * m + begin has come to 0 from its side at first, and the least one beyond 0."""
    return -(begin // slope), -begin // slope + 1
