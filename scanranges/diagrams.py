"""Diagrams: any filter, kept so that its keys and ranges can be counted and numbered along a line."""

from scanranges.checks import are_sizes, is_condition, is_integer, is_key, is_order
from scanranges.errors import (InvalidCondition, InvalidKey, InvalidNumber, InvalidOrder, InvalidSizes, OtherSizes,
                               TooMany)
from scanranges.levels import complement, intersection, parting_values, set_levels, union
from scanranges.lines import line_key, line_values
from scanranges.walks import before_values, has_values, nth_values

MOST_NODES = 500


class Diagram:
    """The keys that a condition lets through, along the line of an order; it does not change."""

    def __init__(self, sizes, order, condition):
        if not are_sizes(sizes):
            raise InvalidSizes("sizes are a list of 1 to 8 integers from 1 to 10 ** 30")
        if not is_order(len(sizes), order):
            raise InvalidOrder("an order is a list of tuples (column, up) with each column once")
        if not is_condition(sizes, condition):
            raise InvalidCondition("the condition is none for columns of these sizes")
        self._sizes = list(sizes)
        self._order = list(order)
        self.levels = _levels_of(sizes, order, condition)

    @property
    def sizes(self):
        """The list of the sizes of the columns."""
        return list(self._sizes)

    @property
    def order(self):
        """The list of the tuples (column, up)."""
        return list(self._order)

    @property
    def total(self):
        """How many keys the filter has."""
        return self.levels.facts[0][self.levels.root][0]

    @property
    def range_total(self):
        """How many ranges the keys of the filter have."""
        return self.levels.facts[0][self.levels.root][1]

    def __contains__(self, key):
        return is_key(self._sizes, key) and has_values(self.levels, line_values(self._sizes, self._order, key))

    def __eq__(self, other):
        if not isinstance(other, Diagram):
            return False
        if self._sizes != other._sizes or self._order != other._order:
            return False
        return self.levels.root == other.levels.root and self.levels.rows == other.levels.rows

    def __and__(self, other):
        self._check_other(other)
        return _same_line(self, intersection(self.levels, other.levels))

    def __or__(self, other):
        self._check_other(other)
        return _same_line(self, union(self.levels, other.levels))

    def __invert__(self):
        return _same_line(self, complement(self.levels))

    def nth_key(self, index):
        """The key of the filter with an index, in the order of the line."""
        if not is_integer(index) or not 0 <= index < self.total:
            raise InvalidNumber("an index is an integer from 0 to total - 1")
        return self._key(nth_values(self.levels, index, False))

    def key_index(self, key):
        """How many keys of the filter are before a key."""
        keys, _, _ = before_values(self.levels, self._values(key))
        return keys

    def nth_range(self, index):
        """The tuple (first key, last key) of the range with an index."""
        if not is_integer(index) or not 0 <= index < self.range_total:
            raise InvalidNumber("an index is an integer from 0 to range_total - 1")
        behind = self.total
        if index + 1 < self.range_total:
            behind, _, _ = before_values(self.levels, nth_values(self.levels, index + 1, True))
        return (self._key(nth_values(self.levels, index, True)), self.nth_key(behind - 1))

    def range_of(self, key):
        """The index of the range that has a key, None for a key that is not in the filter."""
        _, ranges, joined = before_values(self.levels, self._values(key))
        return ranges - joined if key in self else None

    def next_key(self, key):
        """The first key of the filter from a key on, this one included, or None."""
        index = self.key_index(key)
        return self.nth_key(index) if index < self.total else None

    def nodes(self):
        """How many sets of tuples, other than none and all, the first columns of the order leave to the filter."""
        return sum([len(row) - 2 for row in self.levels.rows])

    def _values(self, key):
        if not is_key(self._sizes, key):
            raise InvalidKey("a key is a tuple with a value for each column")
        return line_values(self._sizes, self._order, key)

    def _key(self, values):
        return line_key(self._sizes, self._order, values)

    def _check_other(self, other):
        if not isinstance(other, Diagram):
            raise InvalidCondition("the other object is no Diagram")
        _check_same_line(self, other)
        if self.nodes() + other.nodes() > MOST_NODES:
            raise TooMany("the diagrams have more than 500 nodes together")


def parting_key(one, other):
    """The first key of the line that is in one of two diagrams alone, or None."""
    _check_same_line(one, other)
    values = parting_values(one.levels, other.levels)
    return None if values is None else line_key(one.sizes, one.order, values)


def _check_same_line(one, other):
    if one.sizes != other.sizes or one.order != other.order:
        raise OtherSizes("the diagrams belong to other sizes or to another order")


def _same_line(diagram, levels):
    found = Diagram(diagram.sizes, diagram.order, ("in", 0, []))
    found.levels = levels
    return found


def _levels_of(sizes, order, condition):
    word = condition[0]
    if word == "in":
        return _levels_of_set(sizes, order, condition[1], condition[2])
    parts = [_levels_of(sizes, order, part) for part in condition[1:]]
    if word == "not":
        return complement(parts[0])
    if word == "and":
        return intersection(parts[0], parts[1])
    return union(parts[0], parts[1])


def _levels_of_set(sizes, order, column, stretches):
    widths = [sizes[at] for at, _ in order]
    place = [at for at, _ in order].index(column)
    if order[place][1]:
        return set_levels(widths, place, list(stretches))
    top = sizes[column] - 1
    return set_levels(widths, place, [(top - last, top - first) for first, last in reversed(stretches)])
