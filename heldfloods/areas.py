"""Areas: how many pixels have a colour, as a sum for all canvases of a pair."""

from heldfloods.atlases import Atlas
from heldfloods.charts import Chart, Survey
from heldfloods.checks import check_colour, is_int
from heldfloods.classes import Sizes, class_lists
from heldfloods.edges import edge_parts, values_at
from heldfloods.errors import BadClaim, BadText, NoClass
from heldfloods.grids import runs
from heldfloods.programs import check_program

LETTERS = ("mn", "m", "n", "")


class Sum:
    """a * m * n + b * m + c * n + d, where m and n are half of a width and of a height, rounded down."""

    def __init__(self, a, b, c, d):
        check_number(a, "a")
        check_number(b, "b")
        check_number(c, "c")
        check_number(d, "d")
        self.a = a
        self.b = b
        self.c = c
        self.d = d

    def __call__(self, width, height):
        m, n = width // 2, height // 2
        return self.a * m * n + self.b * m + self.c * n + self.d

    def __add__(self, other):
        if not isinstance(other, Sum):
            return NotImplemented
        return Sum(self.a + other.a, self.b + other.b, self.c + other.c, self.d + other.d)

    def __sub__(self, other):
        if not isinstance(other, Sum):
            return NotImplemented
        return Sum(self.a - other.a, self.b - other.b, self.c - other.c, self.d - other.d)

    def __mul__(self, other):
        if not is_int(other):
            return NotImplemented
        return Sum(self.a * other, self.b * other, self.c * other, self.d * other)

    def __rmul__(self, other):
        return self * other

    def __eq__(self, other):
        return (isinstance(other, Sum) and self.a == other.a and self.b == other.b and self.c == other.c
                and self.d == other.d)

    def __bool__(self):
        return bool(self.a or self.b or self.c or self.d)

    def __str__(self):
        numbers = [self.a, self.b, self.c, self.d]
        terms = [(number, letters) for number, letters in zip(numbers, LETTERS) if number != 0]
        if not terms:
            return "0"
        return "".join([term_text(at, number, letters) for at, (number, letters) in enumerate(terms)])

    @classmethod
    def read(cls, text):
        """The sum with this text."""
        numbers = told_numbers(text) if isinstance(text, str) else None
        # What was told in another way than str would is not read.
        if numbers is None or str(cls(*numbers)) != text:
            raise BadText(0, 0)
        return cls(*numbers)


def check_number(value, part):
    """Raises BadClaim with the name of the part for any value that is no integer."""
    if not is_int(value):
        raise BadClaim(part)


def term_text(at, number, letters):
    """The text of the term with an index, with what stands ahead of it."""
    if at == 0:
        sign = "-" if number < 0 else ""
    else:
        sign = " - " if number < 0 else " + "
    figures = "" if letters and abs(number) == 1 else str(abs(number))
    return f"{sign}{figures}{letters}"


def told_numbers(text):
    """The four numbers that are told by the terms of a text; None if these are no terms."""
    words = text.split(" ")
    found = {letters: 0 for letters in LETTERS}
    for sign, term in zip(["+", *words[1::2]], words[::2]):
        ending = [letters for letters in LETTERS if term.endswith(letters)][0]
        number = told_number(term.removesuffix(ending), ending)
        if number is None or sign not in ("+", "-"):
            return None
        found[ending] = number if sign == "+" else -number
    return [found[letters] for letters in LETTERS]


def told_number(figures, ending):
    """The number that stands ahead of the letters of a term; None if it is none."""
    sign = -1 if figures.startswith("-") else 1
    figures = figures.removeprefix("-")
    if figures == "" and ending != "":
        return sign
    return sign * int(figures) if figures.isascii() and figures.isdigit() else None


def area_sum(program, colour, widths, heights):
    """The sum of a colour on a pair of classes of the edges of a program."""
    check_program(program, 0)
    check_colour(colour)
    across, down = edge_parts("across", (program,)), edge_parts("down", (program,))
    wide_classes, high_classes = class_lists(across, down)
    check_class(widths, wide_classes)
    check_class(heights, high_classes)
    chart = Chart((program,), across, down)
    found = patches(chart, colour, widths.low, heights.low)
    return sum_of(found, forms(across, widths), forms(down, heights))


def area_sums(program, colour):
    """Yields (widths, heights, sum) for the pairs of a program."""
    check_program(program, 0)
    check_colour(colour)
    atlas = Atlas((program,))
    survey = Survey(atlas.chart, lambda width, height: patches(atlas.chart, colour, width, height))
    columns = {sizes.low: forms(atlas.across, sizes) for sizes in atlas.widths}
    rows = {sizes.low: forms(atlas.down, sizes) for sizes in atlas.heights}
    for wide, high in atlas.pages:
        yield wide, high, sum_of(survey.seen(wide.low, high.low), columns[wide.low], rows[high.low])


def check_class(value, sizes):
    """Raises NoClass for any value that is none of some classes."""
    if not isinstance(value, Sizes) or value not in sizes:
        raise NoClass(value)


def patches(chart, colour, width, height):
    """The list of (j, begin, end) for all rows j of cells that have a colour from one column to another one."""
    board = chart.board(width, height, 0)
    return runs(board.lines(board.having(colour)), "1")


def forms(rows, sizes):
    """The ascending list of the ends of all cells at the sizes of a class: each as (slope, offset).

    It is slope * m + offset for half of a size, rounded down, m; the slope is 0 if there is one size alone.
    """
    found = {}
    size = sizes.low
    for (slope, offset, odd), value in zip(rows, values_at(rows, size)):
        if 0 <= value <= size:
            found[value] = (0, value) if sizes.high == size else (slope, offset + odd * (size % 2))
    return [found[value] for value in sorted([int(key) for key in found])]


def sum_of(found, columns, rows):
    """The sum of the pixels of some patches, between ends of columns and of rows that are told by their forms."""
    a, b, c, d = 0, 0, 0, 0
    for y, begin, end in found:
        wide, wide_rest = columns[end][0] - columns[begin][0], columns[end][1] - columns[begin][1]
        high, high_rest = rows[y + 1][0] - rows[y][0], rows[y + 1][1] - rows[y][1]
        a = a + wide * high
        b = b + wide * high_rest
        c = c + wide_rest * high
        d = d + wide_rest * high_rest
    return Sum(a, b, c, d)
