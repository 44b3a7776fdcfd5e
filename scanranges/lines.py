"""The line of an order: what value a key has along it in each column, and which keys come first."""


def line_values(sizes, order, key):
    """How many values of each column, from the first one of the order on, come before the one that a key has."""
    return [key[column] if up else sizes[column] - 1 - key[column] for column, up in order]


def line_key(sizes, order, values):
    """The key that has these values along the line."""
    key = [0] * len(sizes)
    for (column, up), value in zip(order, values):
        key[column] = value if up else sizes[column] - 1 - value
    return tuple(key)


def along_line(sizes, order, keys):
    """A new list of the keys, as they stand on the line."""
    return [key for _, key in sorted([(line_values(sizes, order, key), key) for key in keys])]


def turned_places(places):
    """An order or a wish with all directions turned: it tells the same from the other end."""
    return [(column, not up) for column, up in places]
