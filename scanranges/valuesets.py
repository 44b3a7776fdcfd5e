"""Sets of the values of one column, kept as stretches."""

from scanranges.checks import MOST_STRETCHES, are_stretches, is_integer, is_size
from scanranges.errors import InvalidNumber, InvalidSet, OtherSizes, TooMany


class ValueSet:
    """A set of values of a column; it does not change."""

    def __init__(self, size, stretches):
        if not is_size(size):
            raise InvalidSet("a size is an integer from 1 to 10 ** 30")
        if not are_stretches(size, stretches):
            raise InvalidSet("stretches are a list of 0 to 12 ascending tuples (first, last), apart from each other")
        self._size = size
        self._stretches = list(stretches)

    @property
    def size(self):
        """How many values the column has."""
        return self._size

    @property
    def stretches(self):
        """The ascending list of the tuples (first, last)."""
        return list(self._stretches)

    @property
    def total(self):
        """How many values the set has."""
        return sum([last - first + 1 for first, last in self._stretches])

    @property
    def wraps(self):
        """Whether the set has the first and the last value of the column."""
        return 0 in self and self._size - 1 in self

    def __eq__(self, other):
        return isinstance(other, ValueSet) and self._size == other._size and self._stretches == other._stretches

    def __contains__(self, value):
        return is_integer(value) and any([first <= value <= last for first, last in self._stretches])

    def __and__(self, other):
        self._check(other)
        return _limited(self._size, _common(self._stretches, other._stretches))

    def __or__(self, other):
        self._check(other)
        # What is in neither is made first: it is a plain list, so it may be longer than a set allows.
        neither = _common(_others(self._size, self._stretches), _others(self._size, other._stretches))
        return _limited(self._size, _others(self._size, neither))

    def __invert__(self):
        return _limited(self._size, _others(self._size, self._stretches))

    def turned(self):
        """The set of the values size - 1 - v."""
        top = self._size - 1
        return ValueSet(self._size, [(top - last, top - first) for first, last in reversed(self._stretches)])

    def nth(self, index):
        """The value with an index, ascending."""
        if is_integer(index) and index >= 0:
            left = index
            for first, last in self._stretches:
                if left <= last - first:
                    return first + left
                left -= last - first + 1
        raise InvalidNumber("an index is an integer from 0 to total - 1")

    def _check(self, other):
        if not isinstance(other, ValueSet):
            raise InvalidSet("the other object is no ValueSet")
        if self._size != other._size:
            raise OtherSizes("the sets belong to columns of other sizes")


def _limited(size, stretches):
    if len(stretches) > MOST_STRETCHES:
        raise TooMany("the result has more than 12 stretches")
    return ValueSet(size, stretches)


def _common(mine, theirs):
    found = []
    for low, high in mine:
        for first, last in theirs:
            if low <= last and first <= high:
                found.append((max(low, first), min(high, last)))
    return found


def _others(size, stretches):
    found = []
    start = 0
    for first, last in stretches:
        if start < first:
            found.append((start, first - 1))
        start = last + 1
    if start < size:
        found.append((start, size - 1))
    return found
