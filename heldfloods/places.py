"""Places, told from the left edge, from the right edge or from the middle: one integer for each size."""

from heldfloods.checks import check_size, is_int
from heldfloods.errors import BadPlace, BadText

BOUND = 10 ** 12
FIGURES = 60
NUMBERS = {"left": 1, "right": 1, "middle": 1, "place": 3}


class Place:
    """An integer at each size: slope for each two of the size, and offset, and odd if the size is odd."""

    def __init__(self, slope, offset, odd=0):
        if not is_int(slope):
            raise BadPlace("slope")
        if not is_int(offset):
            raise BadPlace("offset")
        if not is_int(odd):
            raise BadPlace("odd")
        self._slope = slope
        self._offset = offset
        self._odd = odd

    @property
    def slope(self):
        """What is added for each two of a size."""
        return self._slope

    @property
    def offset(self):
        """What is added at each size."""
        return self._offset

    @property
    def odd(self):
        """What is added at odd sizes."""
        return self._odd

    def __call__(self, size):
        check_size(size, "size")
        return self._slope * (size // 2) + self._offset + self._odd * (size % 2)

    def __add__(self, other):
        if isinstance(other, Place):
            return Place(self._slope + other.slope, self._offset + other.offset, self._odd + other.odd)
        if is_int(other):
            return Place(self._slope, self._offset + other, self._odd)
        return NotImplemented

    def __radd__(self, other):
        if is_int(other):
            return Place(self._slope, self._offset + other, self._odd)
        return NotImplemented

    def __sub__(self, other):
        if isinstance(other, Place):
            return Place(self._slope - other.slope, self._offset - other.offset, self._odd - other.odd)
        if is_int(other):
            return Place(self._slope, self._offset - other, self._odd)
        return NotImplemented

    def __invert__(self):
        slope, offset, odd = mirrored_parts(parts_of(self))
        return Place(slope, offset, odd)

    def __eq__(self, other):
        return isinstance(other, Place) and parts_of(self) == parts_of(other)

    def __le__(self, other):
        if not isinstance(other, Place):
            return NotImplemented
        return never_below(other - self, 0)

    def __lt__(self, other):
        if not isinstance(other, Place):
            return NotImplemented
        return never_below(other - self, 1)

    def __ge__(self, other):
        if not isinstance(other, Place):
            return NotImplemented
        return never_below(self - other, 0)

    def __gt__(self, other):
        if not isinstance(other, Place):
            return NotImplemented
        return never_below(self - other, 1)

    def __str__(self):
        return " ".join(place_words(self._slope, self._offset, self._odd))

    @classmethod
    def read(cls, text):
        """The place with this text."""
        if not isinstance(text, str):
            raise BadText(0, 0)
        words = text.split(" ")
        parts, at = take_parts(words, 0)
        if parts is None or at < len(words):
            raise BadText(0, at)
        return cls(*parts)


def from_left(k=0):
    """The place `left k`."""
    return Place(0, k, 0)


def from_right(k=0):
    """The place `right k`."""
    if not is_int(k):
        raise BadPlace("offset")
    return Place(2, -k, 1)


def from_middle(k=0):
    """The place `middle k`."""
    return Place(1, k, 0)


def first_beyond(one, other):
    """The least size at which the place one is greater than other, None if there is none."""
    slope, offset, odd = parts_of(one - other)
    at_odd = first_above(slope, offset + odd, 0)
    at_even = first_above(slope, offset, 1)
    if at_odd is None:
        return None if at_even is None else 2 * at_even
    if at_even is None or 2 * at_odd + 1 < 2 * at_even:
        return 2 * at_odd + 1
    return 2 * at_even


def first_above(slope, offset, least):
    """The first m from least on for which slope * m + offset is above 0, None if there is none."""
    if slope * least + offset > 0:
        return least
    if slope <= 0:
        return None
    return -offset // slope + 1


def never_below(place, least):
    """Whether a place is at least this integer at all sizes."""
    # A slope from 0 on makes the sizes 1 and 2 the least ones of their parities; any other one falls without end.
    slope, offset, odd = parts_of(place)
    return slope >= 0 and offset + odd >= least and slope + offset >= least


def parts_of(place):
    """The three integers of a place."""
    return place.slope, place.offset, place.odd


def mirrored_parts(parts):
    """The three integers of the mirror of the place with these ones."""
    slope, offset, odd = parts
    return 2 - slope, -offset, 1 - odd


def bounded_place(value):
    """The place that any value stands for in a box, a deed or a claim; None if it stands for none."""
    place = from_left(value) if is_int(value) else value
    if isinstance(place, Place) and all([-BOUND <= number <= BOUND for number in parts_of(place)]):
        return place
    return None


def checked_place(value, part):
    """The same; raises BadPlace with the name of the part if there is none."""
    place = bounded_place(value)
    if place is None:
        raise BadPlace(part)
    return place


def place_words(slope, offset, odd):
    """The words of the text of a place."""
    if (slope, odd) == (0, 0):
        return ["left", str(offset)]
    if (slope, odd) == (2, 1):
        return ["right", str(-offset)]
    if (slope, odd) == (1, 0):
        return ["middle", str(offset)]
    return ["place", str(slope), str(offset), str(odd)]


def take_parts(words, at):
    """The three integers of the place whose text begins at an index of words, and the index behind this text.

    If there is no such place: None and the index of the first word that cannot stand.
    """
    if at >= len(words) or words[at] not in NUMBERS:
        return None, at
    behind = at + 1 + NUMBERS[words[at]]
    numbers = []
    for k in range(at + 1, behind):
        if k >= len(words) or not is_number(words[k]):
            return None, k
        numbers.append(int(words[k]))
    parts = named_parts(words[at], numbers)
    # The three numbers of a place that has a name are not written out.
    if place_words(*parts)[0] != words[at]:
        return None, at
    return parts, behind


def named_parts(name, numbers):
    """The three integers of the place that is told by a name and its numbers."""
    if name == "left":
        return 0, numbers[0], 0
    if name == "right":
        return 2, -numbers[0], 1
    if name == "middle":
        return 1, numbers[0], 0
    return numbers[0], numbers[1], numbers[2]


def is_number(word):
    """Whether a word is an integer as str writes it, with at most 60 figures."""
    figures = word.removeprefix("-")
    if not (figures.isascii() and figures.isdigit() and len(figures) <= FIGURES):
        return False
    return str(int(word)) == word
