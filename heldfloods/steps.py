"""The deeds of a program in the order of time."""

from heldfloods.deeds import Again, When
from heldfloods.programs import floods_said


class Steps:
    """The deeds of a program that are still to be done to a canvas."""

    def __init__(self, program, canvas):
        self._canvas = canvas
        self._left = numbered(program.deeds, 0)

    def coming(self):
        """Takes out the next deed that is no Again and no When, with the number of floods said ahead of it.

        This is the number of the deed, if it is a Flood. None if no deed is left.
        """
        while self._left:
            deed, number = self._left.pop()
            if isinstance(deed, Again):
                self._left.extend(numbered(deed.deeds, number) * deed.times)
            elif isinstance(deed, When) and deed.applies(self._canvas):
                self._left.extend(numbered(deed.deeds, number))
            elif isinstance(deed, When):
                self._left.extend(numbered(deed.others, number + floods_said(deed.deeds)))
            else:
                return deed, number
        return None


def numbered(deeds, number):
    """The list of some deeds, the last one first, each with the number of floods said ahead of it."""
    found = []
    for deed in deeds:
        found.append((deed, number))
        number = number + floods_said((deed,))
    return found[::-1]
