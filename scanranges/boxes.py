"""Boxes: a set for each column, and the keys with a value of the set in each."""

from math import gcd
from scanranges.checks import MOST_COLUMNS
from scanranges.errors import EmptyBox, InvalidBox, OtherSizes
from scanranges.valuesets import ValueSet


class Box:
    """The keys with a value of a set in each column; it does not change."""

    def __init__(self, sets):
        if not _are_sets(sets):
            raise InvalidBox("the sets of a box are a list of 1 to 8 ValueSets")
        self._sets = list(sets)

    @property
    def sets(self):
        """The list of the sets, one for each column."""
        return list(self._sets)

    @property
    def sizes(self):
        """The list of the sizes of the columns."""
        return [valueset.size for valueset in self._sets]

    @property
    def total(self):
        """How many keys the box has."""
        total = 1
        for valueset in self._sets:
            total = total * valueset.total
        return total

    def __eq__(self, other):
        return isinstance(other, Box) and self._sets == other._sets

    def __contains__(self, key):
        if not isinstance(key, tuple) or len(key) != len(self._sets):
            return False
        return all([value in valueset for value, valueset in zip(key, self._sets)])

    def __and__(self, other):
        if not isinstance(other, Box):
            raise InvalidBox("the other object is no Box")
        if self.sizes != other.sizes:
            raise OtherSizes("the boxes belong to columns of other sizes")
        return Box([mine & theirs for mine, theirs in zip(self._sets, other._sets)])

    def numbers(self):
        """The number of each column as a tuple (top, bottom), None for an idle one."""
        if self.total == 0:
            raise EmptyBox("an empty box has no numbers")
        return [_number(valueset) for valueset in self._sets]


def _are_sets(thing):
    if not isinstance(thing, list) or not 1 <= len(thing) <= MOST_COLUMNS:
        return False
    return all([isinstance(one, ValueSet) for one in thing])


def _number(valueset):
    if valueset.size == 1:
        return None
    top = len(valueset.stretches)
    bottom = valueset.total
    if valueset.wraps:
        # The ends of the column meet on the line, so the first and last stretch count as one there.
        top -= 1
        bottom -= 1
    divisor = gcd(top, bottom)
    return (top // divisor, bottom // divisor)
