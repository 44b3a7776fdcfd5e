"""The gaps between the ranges of a box, and what it costs to read over some of them."""

from scanranges.checks import is_integer
from scanranges.errors import InvalidNumber
from scanranges.ranges import range_count


def gap_lengths(box, order):
    """The ascending list of the tuples (length, how many gaps have it)."""
    if range_count(box, order) == 0:
        return []
    sets = box.sets
    gaps, width, beside = {}, 1, 0
    for column, _ in reversed(order):
        valueset = sets[column]
        gaps = _further_gaps(valueset, gaps, width, beside)
        beside += (valueset.size - 1 - _reach(valueset)) * width
        width = width * valueset.size
    return [(length, gaps[length]) for length in sorted(gaps)]


def read_in_vain(box, order, most):
    """The fewest positions outside of a box that are read with it in at most so many runs."""
    gaps = gap_lengths(box, order)
    if not is_integer(most) or most < 1:
        raise InvalidNumber("there must be one run or more")
    left_out = most - 1
    read = 0
    for length, many in reversed(gaps):
        kept = min(many, left_out)
        left_out -= kept
        read += (many - kept) * length
    return read


def merged_cost(box, order, price):
    """The least sum of the price for each run that is read and 1 for each position outside of the box in them."""
    gaps = gap_lengths(box, order)
    if not is_integer(price) or price < 0:
        raise InvalidNumber("a price is an integer from 0 on")
    if box.total == 0:
        return 0
    return price + sum([many * min(length, price) for length, many in gaps])


def _reach(valueset):
    # How many values after its first one a set has its last one.
    stretches = valueset.stretches
    return stretches[-1][1] - stretches[0][0]


def _further_gaps(valueset, gaps, width, beside):
    # Behind each value of the column stand `width` positions with these gaps, and `beside` of them before the first
    # key and behind the last one together: so many lie between the keys of two values that follow each other.
    found = {length: many * valueset.total for length, many in gaps.items()}
    between = [(beside, valueset.total - len(valueset.stretches))]
    stretches = valueset.stretches
    for (_, last), (first, _) in zip(stretches, stretches[1:]):
        between.append((beside + (first - last - 1) * width, 1))
    for length, many in between:
        if length > 0 and many > 0:
            found[length] = found.get(length, 0) + many
    return found
