"""Words: a line of a text, from which one word is taken after another."""

from heldfloods.boxes import Box
from heldfloods.checks import AXES
from heldfloods.errors import BadText
from heldfloods.places import Place, is_number, take_parts

DIGITS = ("0", "1", "2", "3", "4", "5", "6", "7", "8", "9")
LONGEST = 8


class Words:
    """The words of a line that are not yet taken.

    Errors tell the index of the line, and that of a word, with those that are counted ahead of the line.
    """

    def __init__(self, words, line, ahead):
        self._words = words
        self._line = line
        self._ahead = ahead
        self._at = 0

    def refuse(self, at):
        """Raises BadText for the word with an index, which cannot stand or is missing."""
        raise BadText(self._line, self._ahead + at)

    def take(self):
        """The next word."""
        if not self.are_left():
            self.refuse(self._at)
        self._at = self._at + 1
        return self._words[self._at - 1]

    def refuse_last(self):
        """Raises BadText for the word that was taken last."""
        self.refuse(self._at - 1)

    def are_left(self):
        """Whether there is a next word."""
        return self._at < len(self._words)

    def finish(self):
        """Raises BadText for a word that is too many."""
        if self.are_left():
            self.refuse(self._at)

    def skip(self, word):
        """Whether the next word is this one; then it is taken."""
        found = self.are_left() and self._words[self._at] == word
        if found:
            self._at = self._at + 1
        return found

    def take_one_of(self, wanted):
        """The next word, one of several."""
        word = self.take()
        if word not in wanted:
            self.refuse_last()
        return word

    def take_number(self, least):
        """The next word, a number that is not below the least one."""
        word = self.take()
        if not is_number(word) or int(word) < least:
            self.refuse_last()
        return int(word)

    def take_name(self):
        """The next word, a name of a desk."""
        word = self.take()
        if not (word.isascii() and word.isalpha() and word.islower() and len(word) <= LONGEST):
            self.refuse_last()
        return word

    def take_place(self):
        """The place that the next words tell."""
        parts, at = take_parts(self._words, self._at)
        if parts is None:
            self.refuse(at)
        self._at = at
        return Place(*parts)

    def take_values(self, form):
        """The list of the values that the next words tell, one for each letter of a form."""
        return [self.take_value(letter) for letter in form]

    def take_value(self, letter):
        """What the next words tell: a place, the four places of a box, a colour, an axis, a name, or a number.

        A number of times has one figure as a colour has.
        """
        if letter == "p":
            return self.take_place()
        if letter == "b":
            return [self.take_place() for _ in range(4)]
        if letter == "c":
            return int(self.take_one_of(DIGITS))
        if letter == "a":
            return self.take_one_of(AXES)
        if letter == "n":
            return self.take_name()
        return self.take_number(0)


def built_values(values):
    """Some values, with a Box in the place of each list of four places; it raises its errors."""
    return [Box(*value) if isinstance(value, list) else value for value in values]
