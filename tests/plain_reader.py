"""The grammar of the texts, word by word, as plainly as can be: what the readers are compared with.

Each function takes the words from an index on, and returns the index behind what it reads; it raises Stop with the
index of the first word that cannot stand.
"""

import re

NUMBER = "(0|-?[1-9][0-9]{0,59})"
NATURAL = "(0|[1-9][0-9]{0,59})"
COUNT = "([1-9][0-9]{0,59})"
NAMES = {"left": 1, "right": 1, "middle": 1, "place": 3}


class Stop(Exception):
    def __init__(self, at):
        super().__init__()
        self.at = at


def word(words, at, pattern):
    if at >= len(words) or not re.fullmatch(pattern, words[at]):
        raise Stop(at)
    return at + 1


def place(words, at):
    behind = word(words, at, "left|right|middle|place")
    for _ in range(NAMES[words[at]]):
        behind = word(words, behind, NUMBER)
    if words[at] == "place":
        slope, _, odd = (int(number) for number in words[at + 1:at + 4])
        if (slope, odd) in ((0, 0), (1, 0), (2, 1)):
            raise Stop(at)
    return behind


def parts(words, at, letters):
    for letter in letters:
        if letter == "b":
            for _ in range(4):
                at = place(words, at)
        elif letter == "p":
            at = place(words, at)
        else:
            at = word(words, at, {"c": "[0-9]", "a": "across|down", "k": NATURAL, "w": COUNT,
                                  "n": "[a-z]{1,8}"}[letter])
    return at


def whole(words, at):
    """That no word is left."""
    if at < len(words):
        raise Stop(at)


CLAIMS = {"colour": "ppc", "none": "c", "covered": "bc", "mirrored": "a", "held": "kb"}


def claim(words, at, behind_not=False):
    behind = word(words, at, "colour|none|covered|mirrored|held|both|either" + ("" if behind_not else "|not"))
    if words[at] in CLAIMS:
        return parts(words, behind, CLAIMS[words[at]])
    if words[at] == "not":
        return claim(words, behind, True)
    return claim(words, claim(words, behind))


def paper(words, at):
    behind = word(words, at, "no|yes")
    if words[at] == "no":
        return parts(words, behind, "ww")
    at = sizes(words, behind)
    while at >= len(words) or words[at] != "and":
        at = sizes(words, at)
    at = sizes(words, at + 1)
    while at < len(words):
        at = sizes(words, at)
    return at


def sizes(words, at):
    behind = word(words, at, COUNT + r"(\.\.(" + COUNT + ")?)?")
    numbers = [int(part) for part in words[at].split("..") if part]
    if len(numbers) == 2 and (numbers[1] <= numbers[0] or (numbers[1] - numbers[0]) % 2):
        raise Stop(at)
    return behind


DEEDS = {"fill": "bc", "frame": "bck", "flood": "ppc", "copy": "bpp", "flip": "a", "swap": "cc", "grow": "c",
         "again": "c", "when": "ppc"}


def program(lines):
    """The line and the word of the first word that cannot stand; None if all can."""
    if lines[0][0] == "none":
        return (0, 1) if len(lines[0]) > 1 else (1, 0) if len(lines) > 1 else None
    # Of each open block: its first word, whether it has an else, and whether a deed stands behind that.
    blocks = []
    for line, words in enumerate(lines):
        try:
            if words[0] in DEEDS:
                whole(words, parts(words, 1, DEEDS[words[0]]))
                if blocks:
                    blocks[-1] = blocks[-1][0], blocks[-1][1], True
                if words[0] in ("again", "when"):
                    blocks.append((words[0], False, False))
            elif words[0] == "else" and blocks and blocks[-1][:2] == ("when", False):
                whole(words, 1)
                blocks[-1] = "when", True, False
            elif words[0] == "end" and blocks and blocks[-1][1:] != (True, False):
                whole(words, 1)
                blocks.pop()
            else:
                raise Stop(0)
        except Stop as stop:
            return line, stop.at
    return (len(lines), 0) if blocks else None


def single(lines, read):
    """The same for a text of one line that a function reads."""
    try:
        whole(lines[0], read(lines[0], 0))
    except Stop as stop:
        return 0, stop.at
    return (1, 0) if len(lines) > 1 else None


def wrong_word(kind, text):
    """Where the text of a program, a claim or a paper is wrong; None where it is not."""
    lines = [line.split(" ") for line in text.split("\n")]
    if kind == "program":
        return program(lines)
    return single(lines, claim if kind == "claim" else paper)
