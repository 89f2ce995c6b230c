"""Walls: which deeds of a program are enough for a claim to hold on all canvases."""

from heldfloods.checks import is_int, is_int_in
from heldfloods.claims import Claim
from heldfloods.errors import BadClaim, NoDeed, TooMany
from heldfloods.judge import judge
from heldfloods.programs import Program, check_program, floods_said

MOST = 5


class Walls:
    """The first choice that is enough, or None, and the reasons why each one ahead of it is not."""

    def __init__(self, kept, reasons):
        self.kept = kept
        self.reasons = reasons

    def __bool__(self):
        return self.kept is not None

    def __eq__(self, other):
        return isinstance(other, Walls) and self.kept == other.kept and self.reasons == other.reasons


def chosen(program, indexes, choice):
    """The program without the walls that are not in a choice."""
    check_program(program, 0)
    check_indexes(program, indexes)
    for value in choice:
        if not (is_int(value) and value in indexes):
            raise NoDeed(value)
    check_few(indexes)
    return left_of(program, indexes, choice)


def fewest(program, indexes, claim):
    """The Walls with the first choice that is enough for a claim."""
    check_program(program, 0)
    if not isinstance(claim, Claim):
        raise BadClaim("claim")
    check_indexes(program, indexes)
    check_few(indexes)
    reasons = []
    for choice in choices(indexes):
        verdict = judge(left_of(program, indexes, choice), claim)
        if verdict:
            return Walls(choice, tuple(reasons))
        reasons.append((choice, verdict))
    return Walls(None, tuple(reasons))


def check_indexes(program, indexes):
    """Raises NoDeed for the first of some values that is no index of a wall, or was there before."""
    for at, value in enumerate(indexes):
        if not is_int_in(value, 0, len(program)) or value in indexes[:at] or floods_said((program[value],)) > 0:
            raise NoDeed(value)


def check_few(indexes):
    """Raises TooMany for more walls than the most."""
    if len(indexes) > MOST:
        raise TooMany("walls", MOST)


def choices(indexes):
    """The list of all choices of some walls, in their order."""
    walls = sorted([int(value) for value in indexes])
    found, longest = [()], [()]
    while longest:
        longest = [(*choice, wall) for choice in longest for wall in walls if not choice or wall > choice[-1]]
        found.extend(longest)
    return found


def left_of(program, indexes, choice):
    """The program without the walls that are not in a choice."""
    deeds = [deed for at, deed in enumerate(program.deeds) if at in choice or at not in indexes]
    return Program(*deeds)
