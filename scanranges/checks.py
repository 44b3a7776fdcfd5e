"""Whether any object is what the package takes: integers, sizes, stretches, orders, keys, conditions, wishes."""

GREATEST_SIZE = 10 ** 30
MOST_COLUMNS = 8
MOST_STRETCHES = 12
MOST_SETS = 12
MOST_LEVELS = 20
MOST_WISHES = 16
MOST_KEYS = 400


def is_integer(thing):
    """Whether any object is an integer, which a boolean is not."""
    return isinstance(thing, int) and not isinstance(thing, bool)


def is_size(thing):
    """Whether any object is the size of a column."""
    return is_integer(thing) and 1 <= thing <= GREATEST_SIZE


def are_sizes(thing):
    """Whether any object is the list of the sizes of some columns."""
    if not isinstance(thing, list) or not 1 <= len(thing) <= MOST_COLUMNS:
        return False
    return all([is_size(one) for one in thing])


def are_stretches(size, thing):
    """Whether any object is the list of the stretches of a set of a column of this size."""
    if not isinstance(thing, list) or len(thing) > MOST_STRETCHES:
        return False
    least = 0
    for stretch in thing:
        if not _is_stretch(least, size, stretch):
            return False
        # One value must stay out of the set, or the two stretches would be one.
        least = stretch[1] + 2
    return True


def _is_stretch(least, size, thing):
    if not isinstance(thing, tuple) or len(thing) != 2:
        return False
    first, last = thing
    return is_integer(first) and is_integer(last) and least <= first <= last < size


def is_order(many, thing):
    """Whether any object is an order of so many columns."""
    if not isinstance(thing, list) or len(thing) != many:
        return False
    if not all([_is_place(place) for place in thing]):
        return False
    return sorted([column for column, _ in thing]) == list(range(many))


def is_key(sizes, thing):
    """Whether any object is a key of columns of these sizes."""
    if not isinstance(thing, tuple) or len(thing) != len(sizes):
        return False
    return all([is_integer(value) and 0 <= value < size for value, size in zip(thing, sizes)])


def are_keys(sizes, thing):
    """Whether any object is a list of keys, of which some may be the same."""
    return isinstance(thing, list) and all([is_key(sizes, one) for one in thing])


def is_table(sizes, thing):
    """Whether any object is the list of the keys of a table."""
    return are_keys(sizes, thing) and len(thing) <= MOST_KEYS and len(set(thing)) == len(thing)


def is_wish(many, thing):
    """Whether any object is a wish for so many columns."""
    if not isinstance(thing, list) or len(thing) > MOST_WISHES:
        return False
    return all([_is_place(one) and 0 <= one[0] < many for one in thing])


def is_many(thing):
    """Whether any object says how many matches are wanted: an integer from 0 on, or None for all."""
    return thing is None or (is_integer(thing) and thing >= 0)


def is_condition(sizes, thing):
    """Whether any object is a condition of columns of these sizes."""
    waiting = [(1, thing)]
    sets = 0
    # It ends at the first limit that is passed: a tuple that stands in many places could be gone through for ever.
    while waiting:
        level, one = waiting.pop()
        if level > MOST_LEVELS or not _is_step(sizes, one):
            return False
        if one[0] == "in":
            sets += 1
        else:
            waiting.extend([(level + 1, part) for part in one[1:]])
        if sets > MOST_SETS:
            return False
    return True


def _is_step(sizes, thing):
    # Whether the outermost part of a condition is right, whatever the filters in it are.
    if not isinstance(thing, tuple) or not thing:
        return False
    if thing[0] == "in":
        return len(thing) == 3 and _is_column_set(sizes, thing[1], thing[2])
    if thing[0] == "not":
        return len(thing) == 2
    return (thing[0] == "and" or thing[0] == "or") and len(thing) == 3


def _is_column_set(sizes, column, stretches):
    return is_integer(column) and 0 <= column < len(sizes) and are_stretches(sizes[column], stretches)


def _is_place(thing):
    if not isinstance(thing, tuple) or len(thing) != 2:
        return False
    column, up = thing
    return is_integer(column) and isinstance(up, bool)
