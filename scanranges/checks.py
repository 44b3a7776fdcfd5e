"""Whether any object is what the package takes: integers, sizes, stretches, orders, keys."""

GREATEST_SIZE = 10 ** 30
MOST_STRETCHES = 12


def is_integer(thing):
    """Whether any object is an integer, which a boolean is not."""
    return isinstance(thing, int) and not isinstance(thing, bool)


def is_size(thing):
    """Whether any object is the size of a column."""
    return is_integer(thing) and 1 <= thing <= GREATEST_SIZE


def are_stretches(size, thing):
    """Whether any object is the list of the stretches of a set of a column of this size."""
    if not isinstance(thing, list) or len(thing) > MOST_STRETCHES:
        return False
    least = 0
    for stretch in thing:
        if not _is_stretch(least, size, stretch):
            return False
        # One value must stay out of the set, or the two stretches would be one.
        least = stretch[1] + 2
    return True


def _is_stretch(least, size, thing):
    if not isinstance(thing, tuple) or len(thing) != 2:
        return False
    first, last = thing
    return is_integer(first) and is_integer(last) and least <= first <= last < size


def is_order(many, thing):
    """Whether any object is an order of so many columns."""
    if not isinstance(thing, list) or len(thing) != many:
        return False
    if not all([_is_place(place) for place in thing]):
        return False
    return sorted([column for column, _ in thing]) == list(range(many))


def is_key(sizes, thing):
    """Whether any object is a key of columns of these sizes."""
    if not isinstance(thing, tuple) or len(thing) != len(sizes):
        return False
    return all([is_integer(value) and 0 <= value < size for value, size in zip(thing, sizes)])


def _is_place(thing):
    if not isinstance(thing, tuple) or len(thing) != 2:
        return False
    column, up = thing
    return is_integer(column) and isinstance(up, bool)
