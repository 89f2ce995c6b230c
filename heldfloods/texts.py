"""Texts of programs, of claims and of the papers of verdicts."""

from heldfloods.classes import Sizes


def program_text(program):
    """The text of a program, one line for each deed and for each end of a block."""
    return str(program)


def claim_text(claim):
    """The text of a claim."""
    return str(claim)


def paper_text(paper):
    """The text of a paper."""
    if paper[0] == "no":
        return f"no {paper[1]} {paper[2]}"
    return f"yes {rows_text(paper[1])} and {rows_text(paper[2])}"


def rows_text(rows):
    """The texts of the classes of sizes that are told by pairs (low, high)."""
    return " ".join([str(Sizes(low, high)) for low, high in rows])
