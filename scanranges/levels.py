"""A filter as levels of nodes, one level for each column of the line.

A node of a level is what some values of the columns before leave to the filter: a tuple of runs (first, last, child)
of the values of its column along the line, the child being the number of a node of the next level. Runs beside each
other have unlike children, no two nodes of a level are the same, and they are numbered as the line meets them, so
filters with the same keys have the same levels.
"""

# These two are nodes of each level, and all there is behind the last one.
NONE = 0
ALL = 1
FIRST = 2


class Levels:
    """The levels of a filter; they do not change."""

    def __init__(self, widths, root, rows):
        self.widths = widths
        self.root = root
        self.rows = rows
        self.facts = _facts(rows)


def set_levels(widths, place, stretches):
    """The levels of the keys with a value of these stretches in the column at a place of the line."""
    rows = [_plain_nodes(width) for width in widths]
    if not stretches:
        return Levels(widths, NONE, rows)
    if stretches == [(0, widths[place] - 1)]:
        return Levels(widths, ALL, rows)
    found = []
    for at, (width, row) in enumerate(zip(widths, rows)):
        if at < place:
            found.append(row + [((0, width - 1, FIRST),)])
        elif at == place:
            found.append(row + [_runs_of_set(width, stretches)])
        else:
            found.append(row)
    return Levels(widths, FIRST, found)


def complement(levels):
    """The levels of all other keys."""
    numbers = {NONE: ALL, ALL: NONE}
    rows = []
    for row in levels.rows:
        rows.append(row[:FIRST] + [_renumbered(node, numbers) for node in row[FIRST:]])
    return Levels(levels.widths, numbers.get(levels.root, levels.root), rows)


def intersection(one, other):
    """The levels of the keys in both of two filters."""
    numbers = {(NONE, NONE): NONE, (ALL, ALL): ALL}
    rows = []
    for width, pairs in reversed(list(zip(one.widths, _pairs_of_levels(one, other)))):
        below = numbers
        numbers = {}
        nodes = {node: number for number, node in enumerate(_plain_nodes(width))}
        for pair in pairs:
            node = _joined([(first, last, below[child]) for first, last, child in pairs[pair]])
            if node not in nodes:
                nodes[node] = len(nodes)
            numbers[pair] = nodes[node]
        rows.append(list(nodes))
    return Levels(one.widths, numbers[_pair(one.root, other.root)], rows[::-1])


def union(one, other):
    """The levels of the keys in one or both of two filters."""
    return complement(intersection(complement(one), complement(other)))


def parting_values(one, other):
    """The values along the line of the first key that is in one of two filters alone, or None."""
    marks = _common_marks(one, other)
    mine, theirs = one.root, other.root
    if marks[0][0][mine] == marks[0][1][theirs]:
        return None
    values = []
    for level, (my_marks, their_marks) in enumerate(marks[1:]):
        runs = _overlaps(one.rows[level][mine], other.rows[level][theirs])
        unlike = [run for run in runs if my_marks[run[2][0]] != their_marks[run[2][1]]]
        first, _, (mine, theirs) = unlike[0]
        values.append(first)
    return values


def _plain_nodes(width):
    return [((0, width - 1, NONE),), ((0, width - 1, ALL),)]


def _runs_of_set(width, stretches):
    runs = []
    start = 0
    for first, last in stretches:
        if start < first:
            runs.append((start, first - 1, NONE))
        runs.append((first, last, ALL))
        start = last + 1
    if start < width:
        runs.append((start, width - 1, NONE))
    return tuple(runs)


def _renumbered(node, numbers):
    return tuple([(first, last, numbers.get(child, child)) for first, last, child in node])


def _pair(mine, theirs):
    # What one filter leaves none of has no key in both, whatever the other one leaves.
    return (NONE, NONE) if mine == NONE or theirs == NONE else (mine, theirs)


def _pairs_of_levels(one, other):
    # For each level the pairs of nodes that some values lead to, as the line meets them, with their common runs.
    pairs = [_pair(one.root, other.root)]
    found = []
    for mine, theirs in zip(one.rows, other.rows):
        runs = {}
        for my_node, their_node in pairs:
            met = _overlaps(mine[my_node], theirs[their_node])
            runs[(my_node, their_node)] = [(first, last, _pair(a, b)) for first, last, (a, b) in met]
        found.append(runs)
        pairs = list({child: True for steps in runs.values() for _, _, child in steps})
    return found


def _overlaps(mine, theirs):
    # The runs in which both children of two nodes stay the same, as (first, last, both children).
    found = []
    start, my_at, their_at = 0, 0, 0
    while my_at < len(mine):
        _, my_last, my_child = mine[my_at]
        _, their_last, their_child = theirs[their_at]
        last = min(my_last, their_last)
        found.append((start, last, (my_child, their_child)))
        start = last + 1
        my_at = my_at + 1 if my_last == last else my_at
        their_at = their_at + 1 if their_last == last else their_at
    return found


def _joined(runs):
    found = []
    for first, last, child in runs:
        if found and found[-1][2] == child:
            found[-1] = (found[-1][0], last, child)
        else:
            found.append((first, last, child))
    return tuple(found)


def _common_marks(one, other):
    # For each level, and behind the last one, a mark for each node of both filters: the same one for the same keys.
    mine, theirs = [NONE, ALL], [NONE, ALL]
    found = [(mine, theirs)]
    for my_row, their_row in reversed(list(zip(one.rows, other.rows))):
        my_nodes = [_marked(node, mine) for node in my_row]
        their_nodes = [_marked(node, theirs) for node in their_row]
        marks = {}
        for node in my_nodes + their_nodes:
            if node not in marks:
                marks[node] = len(marks)
        mine, theirs = [marks[node] for node in my_nodes], [marks[node] for node in their_nodes]
        found.append((mine, theirs))
    return found[::-1]


def _marked(node, marks):
    return tuple([(first, last, marks[child]) for first, last, child in node])


def _facts(rows):
    # For each level, and behind the last one, of each node: how many keys and ranges it has, and, as 0 or 1, whether
    # it has the first key and the last key of its part of the line.
    below = [(0, 0, 0, 0), (1, 1, 1, 1)]
    found = [below]
    for row in reversed(rows):
        below = [_facts_of_node(node, below) for node in row]
        found.append(below)
    return found[::-1]


def _facts_of_node(node, below):
    total, ranges, joined = 0, 0, 0
    for first, last, child in node:
        keys, starts, opening, closing = below[child]
        many = last - first + 1
        total = total + many * keys
        ranges = ranges + many * starts - (many - 1) * opening * closing - joined * opening
        joined = closing
    return (total, ranges, below[node[0][2]][2], joined)
