"""Which orders give a box the fewest ranges, which the most, and the rules that tell them."""

from scanranges.ranges import range_count


def fewest_ranges(box):
    """How many ranges a box has in a best order."""
    return range_count(box, best_order(box))


def most_ranges(box):
    """How many ranges a box has in a worst order."""
    return range_count(box, worst_order(box))


def best_order(box):
    """The order with the fewest ranges, up everywhere, that has the least list of columns."""
    return least_order(needs_of(len(box.sets), [rules(box)]))


def worst_order(box):
    """The order with the most ranges, up everywhere, that has the least list of columns."""
    return least_order(needs_of(len(box.sets), [_rules(box, -1)]))


def is_best(box, order):
    """Whether no order gives a box fewer ranges."""
    return range_count(box, order) == fewest_ranges(box)


def count_best(box):
    """How many lists of columns have the fewest ranges."""
    needs = needs_of(len(box.sets), [rules(box)])
    counts = [1]
    for left in range(1, 1 << len(needs)):
        counts.append(sum([counts[left - (1 << column)] for column in last_ones(needs, left)]))
    return counts[-1]


def rules(box):
    """The tuple (pairs, clauses): exactly the best lists of columns keep them all."""
    return _rules(box, 1)


# From here on some columns together are one integer: its bit with the index b is set if column b is among them.


def needs_of(many, told):
    """For each of so many columns the groups of columns before some one of which it must stand by one of the rules."""
    needs = [[] for _ in range(many)]
    for pairs, clauses in told:
        for column, other in pairs:
            needs[column].append(1 << other)
        for column, candidates in clauses:
            needs[column].append(sum([1 << candidate for candidate in candidates]))
    return needs


def last_ones(needs, left):
    """The columns of those left, ascending, that need not stand before another one of them."""
    found = []
    for column, groups in enumerate(needs):
        if left & (1 << column) and not any([(left & group) == group for group in groups]):
            found.append(column)
    return found


def least_order(needs):
    """The order up everywhere with the least list of columns that meets the needs, or None."""
    # For each group of columns the least list of it that meets the needs in it: which one stands last is tried out.
    lists = [[]]
    for left in range(1, 1 << len(needs)):
        fronts = [(lists[left - (1 << column)], column) for column in last_ones(needs, left)]
        lists.append(min([front + [column] for front, column in fronts if front is not None], default=None))
    if lists[-1] is None:
        return None
    return [(column, True) for column in lists[-1]]


def _rules(box, sign):
    # With sign -1 all comparisons of numbers are turned round: that tells the orders with the most ranges.
    if box.total == 0:
        return ([], [])
    numbers = box.numbers()
    bounding, equal, beyond, held = _kinds(box, numbers, sign)
    pairs = []
    for column in sorted(bounding + equal + beyond):
        pairs.extend([(column, other) for other in beyond if _compared(numbers[column], numbers[other], sign) > 0])
    return (pairs, [(column, list(bounding)) for column in held])


def _kinds(box, numbers, sign):
    # The columns of Z, E, L and H of R2; if all columns wrap, the ones that are not idle are ordered as L is.
    wraps = [valueset.wraps for valueset in box.sets]
    busy = [column for column, number in enumerate(numbers) if number is not None]
    bounds = [numbers[column] for column in busy if not wraps[column]]
    if not bounds:
        return ([], [], busy, [])
    bound = _least(bounds, sign)
    bounding, equal, beyond, held = [], [], [], []
    for column in busy:
        side = _compared(numbers[column], bound, sign)
        if side > 0:
            held.append(column)
        elif side < 0:
            beyond.append(column)
        elif wraps[column]:
            equal.append(column)
        else:
            bounding.append(column)
    return (bounding, equal, beyond, held)


def _least(numbers, sign):
    least = numbers[0]
    for number in numbers:
        if _compared(number, least, sign) < 0:
            least = number
    return least


def _compared(one, other, sign):
    # Above 0 if the first number is the greater one, below 0 if it is the less one.
    return sign * (one[0] * other[1] - other[0] * one[1])
