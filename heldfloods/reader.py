"""Readers of the texts of programs, of claims and of papers."""

from heldfloods.claimreader import claim_of
from heldfloods.errors import BadText
from heldfloods.places import is_number
from heldfloods.programreader import program_of
from heldfloods.words import Words


def read_program(text):
    """The program with this text."""
    rows = rows_of(text)
    return program_of(rows, len(rows), 0)


def read_claim(text):
    """The claim with this text."""
    return claim_of(rows_of(text))


def read_paper(text):
    """The paper with this text."""
    rows = rows_of(text)
    paper = taken_paper(rows[0])
    if len(rows) > 1:
        rows[1].refuse(0)
    return paper


def taken_paper(words):
    """The paper that the words of a line tell."""
    if words.take_one_of(("no", "yes")) == "no":
        width, height = words.take_number(1), words.take_number(1)
        words.finish()
        return "no", width, height
    widths, heights = [taken_sizes(words)], []
    while not words.skip("and"):
        widths.append(taken_sizes(words))
    while not heights or words.are_left():
        heights.append(taken_sizes(words))
    return "yes", tuple(widths), tuple(heights)


def rows_of(text):
    """The list of the words of each line of a text, any value."""
    if not isinstance(text, str):
        raise BadText(0, 0)
    return [Words(line.split(" "), at, 0) for at, line in enumerate(text.split("\n"))]


def taken_sizes(words):
    """The pair (low, high) that the next word tells, as the text of a Sizes does."""
    low, dots, high = words.take().partition("..")
    if not is_number(low) or int(low) < 1:
        words.refuse_last()
    if dots == "":
        return int(low), int(low)
    if high == "":
        return int(low), None
    if not is_number(high) or int(high) <= int(low) or (int(high) - int(low)) % 2 != 0:
        words.refuse_last()
    return int(low), int(high)
