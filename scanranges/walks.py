"""Ways through the levels of a filter: to a key, and to the key or the range with an index."""

from scanranges.levels import ALL


def has_values(levels, values):
    """Whether the key with these values along the line is in the filter."""
    node = levels.root
    for row, value in zip(levels.rows, values):
        node = [child for first, _, child in row[node] if first <= value][-1]
    return node == ALL


def before_values(levels, values):
    """What stands before the key with these values along the line.

    It is the tuple (keys, ranges, joined): how many keys of the filter there are, how many ranges start there, and,
    as 0 or 1, whether the key right before it is in the filter.
    """
    keys, ranges, joined, node = 0, 0, 0, levels.root
    for row, below, value in zip(levels.rows, levels.facts[1:], values):
        pieces = [piece for piece in _pieces(row[node], below, joined) if piece[0] <= value]
        for first, last, _, _, keys_each, ranges_each in pieces:
            many = min(last + 1, value) - first
            keys += many * keys_each
            ranges += many * ranges_each
        _, _, node, joined, _, _ = pieces[-1]
    return (keys, ranges, joined)


def nth_values(levels, index, starts):
    """The values along the line of the key with an index: among all keys of the filter, or those that start a range."""
    values = []
    joined, node = 0, levels.root
    for row, below in zip(levels.rows, levels.facts[1:]):
        pieces = _pieces(row[node], below, joined)
        at = 0
        while index >= _amount(pieces[at], starts):
            index -= _amount(pieces[at], starts)
            at += 1
        first, _, node, joined, keys_each, ranges_each = pieces[at]
        further, index = divmod(index, ranges_each if starts else keys_each)
        values.append(first + further)
    return values


def _amount(piece, starts):
    first, last, _, _, keys_each, ranges_each = piece
    return (last - first + 1) * (ranges_each if starts else keys_each)


def _pieces(node, below, joined):
    # The runs of a node as pieces (first, last, child, joined, keys, ranges): `joined` says whether the key right
    # before each value of the piece is in the filter, and each value has so many keys and starts of ranges. The
    # first value of a run may have another neighbour than the further ones, so it is a piece of its own.
    found = []
    for first, last, child in node:
        keys, ranges, opening, closing = below[child]
        found.append((first, first, child, joined, keys, ranges - joined * opening))
        if first < last:
            found.append((first + 1, last, child, closing, keys, ranges - closing * opening))
        joined = closing
    return found
