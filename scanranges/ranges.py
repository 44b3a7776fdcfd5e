"""The ranges of a box on the line of an order: how many there are, and which they are."""

from scanranges.checks import is_integer, is_key, is_order
from scanranges.errors import InvalidKey, InvalidNumber, InvalidOrder
from scanranges.lines import line_key, line_values


def range_count(box, order):
    """How many ranges a box has."""
    steps = range_steps(box, order)
    return steps[-1][0] if steps else 0


def range_steps(box, order):
    """The tuples (R, e) after each column, from the last column of the order to the first."""
    if not is_order(len(box.sets), order):
        raise InvalidOrder("an order is a list of tuples (column, up) with each column of the box once")
    if box.total == 0:
        return []
    sets = box.sets
    steps = []
    many, joined = 1, 1
    for column, _ in reversed(order):
        valueset = sets[column]
        many = valueset.total * many - (valueset.total - len(valueset.stretches)) * joined
        joined = joined if valueset.wraps else 0
        steps.append((many, joined))
    return steps


def nth_range(box, order, index):
    """The tuple (first key, last key) of the range with an index."""
    steps = range_steps(box, order)
    if not steps or not is_integer(index) or not 0 <= index < steps[-1][0]:
        raise InvalidNumber("an index is an integer from 0 to range_count - 1")
    first, last = [], []
    start, end = index, index
    for stretches, (many, joined) in zip(_line_stretches(box, order), _behind(steps)):
        value, start = _start(stretches, many, joined, start)
        first.append(value)
        value, end = _end(stretches, many, joined, end)
        last.append(value)
    return (line_key(box.sizes, order, first), line_key(box.sizes, order, last))


def range_of(box, order, key):
    """The index of the range that has a key, None for a key that is not in the box."""
    steps = range_steps(box, order)
    if not is_key(box.sizes, key):
        raise InvalidKey("a key is a tuple with a value for each column")
    if key not in box:
        return None
    index = 0
    values = line_values(box.sizes, order, key)
    for stretches, (many, joined), value in zip(_line_stretches(box, order), _behind(steps), values):
        index += _ranges_before(stretches, many, joined, value)
    return index


def _behind(steps):
    # For each column of the order, from the first one on: the (R, e) of the columns behind it.
    return list(reversed([(1, 1)] + steps[:-1]))


def _line_stretches(box, order):
    sets = box.sets
    return [sets[column].stretches if up else sets[column].turned().stretches for column, up in order]


# Behind each value of a column there are `many` ranges of the columns behind it. If `joined` is 1, the last one of a
# value and the first one of the next value are one range: then a further value of a stretch brings one range less.


def _start(stretches, many, joined, index):
    # The value where a range starts, and the index of the range among those of this value.
    first, _, rest = _stretch_of_range(stretches, many, joined, index)
    if rest < many:
        return (first, rest)
    further = (rest - joined) // (many - joined)
    return (first + further, rest - further * (many - joined))


def _end(stretches, many, joined, index):
    # The value where a range ends, and the index of the range among those of this value.
    first, last, rest = _stretch_of_range(stretches, many, joined, index)
    if many == joined:
        return (last, rest)
    further = min(rest // (many - joined), last - first)
    return (first + further, rest - further * (many - joined))


def _stretch_of_range(stretches, many, joined, index):
    rest = index
    at = 0
    while rest >= _ranges_in(stretches[at], many, joined):
        rest -= _ranges_in(stretches[at], many, joined)
        at += 1
    first, last = stretches[at]
    return (first, last, rest)


def _ranges_in(stretch, many, joined):
    first, last = stretch
    return (last - first) * (many - joined) + many


def _ranges_before(stretches, many, joined, value):
    # How many ranges of the stretches come before the first one of a value that is in one of them.
    before = 0
    for first, last in stretches:
        if value <= last:
            return before + (value - first) * (many - joined)
        before += _ranges_in((first, last), many, joined)
    return before
