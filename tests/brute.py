"""What the tests share: sets, lines and ranges worked out one by one, and objects of every kind."""

import unittest
from itertools import permutations, product

from scanranges.boxes import Box
from scanranges.errors import ScanError
from scanranges.valuesets import ValueSet

HUGE = 10 ** 30


class Base(unittest.TestCase):
    """A test case that asks for an error of exactly one class."""

    def exactly(self, error, call, *args, **more):
        with self.assertRaises(ScanError) as caught:
            call(*args, **more)
        self.assertIs(type(caught.exception), error)


def values_of(stretches):
    return [value for first, last in stretches for value in range(first, last + 1)]


def stretches_of(values):
    found = []
    for value in sorted(values):
        if found and found[-1][1] == value - 1:
            found[-1] = (found[-1][0], value)
        else:
            found.append((value, value))
    return found


def set_of(size, values):
    return ValueSet(size, stretches_of(values))


def all_value_lists(size):
    return [[value for value in range(size) if bits[value]] for bits in product((0, 1), repeat=size)]


def all_boxes(sizes):
    columns = [[set_of(size, values) for values in all_value_lists(size)] for size in sizes]
    return [Box(list(sets)) for sets in product(*columns)]


def example():
    """The box of the document's example."""
    return Box([ValueSet(10, [(3, 3)]), ValueSet(7, [(0, 1), (5, 6)]), ValueSet(100, [(20, 49)])])


def all_up(columns):
    return [(column, True) for column in columns]


def all_orders(many):
    """Each list of columns with all directions."""
    directions = list(product((True, False), repeat=many))
    return [list(zip(columns, ups)) for columns in permutations(range(many)) for ups in directions]


def line_of(sizes, order):
    """All keys, one after the other along the line."""
    runs = [range(sizes[column]) if up else range(sizes[column] - 1, -1, -1) for column, up in order]
    found = []
    for values in product(*runs):
        key = [None] * len(sizes)
        for (column, _), value in zip(order, values):
            key[column] = value
        found.append(tuple(key))
    return found


def ranges_on(line, box):
    """The ranges of a box as lists of keys, found key by key."""
    found = []
    before = False
    for key in line:
        inside = key in box
        if inside and not before:
            found.append([])
        if inside:
            found[-1].append(key)
        before = inside
    return found


def counts_of(box):
    """For each list of columns how many ranges the box has, by R1."""
    sets = [(one.total, len(one.stretches), one.wraps) for one in box.sets]
    found = {}

    def go_on(columns, many, joined):
        if len(columns) == len(sets):
            found[columns] = many
        for column, (total, stretches, wraps) in enumerate(sets):
            if column not in columns:
                go_on((column,) + columns, total * many - (total - stretches) * joined, joined if wraps else 0)

    go_on((), 1, 1)
    return {columns: many if box.total else 0 for columns, many in found.items()}


def best_lists(box):
    """The lists of columns with the fewest ranges, ascending."""
    counts = counts_of(box)
    fewest = min(counts.values())
    return sorted([columns for columns in counts if counts[columns] == fewest])


class Chooser:
    """Chooses again and again, always in the same way, so that a test can take some of very many."""

    def __init__(self, start):
        self.state = start

    def one(self, options):
        self.state = (self.state * 6364136223846793005 + 1442695040888963407) & ((1 << 64) - 1)
        return options[(self.state >> 33) % len(options)]


def spread(many, start=0, step=2):
    """So many stretches of one value each."""
    return [(start + step * at, start + step * at) for at in range(many)]


def nested(depth):
    thing = 1
    for _ in range(depth):
        thing = [thing]
    return thing


def odd_objects():
    """Objects of every kind that the document allows for any object; most places take few of them."""
    valueset = ValueSet(3, [(0, 1)])
    return [
        None, True, False, 0, 1, -1, 7, 10 ** 59, -10 ** 59,
        "", "0", "01", "text\n", "x" * 4000,
        [], [[]], [()], [0], [1, 2], [None], [True], ["0-1"], [[0, 1]], [(0, 1, 2)], [(0,)], [valueset, None],
        (), (0,), ((0, 1),), (0, 1), (None, None), ("a", "b"), (True, False), ((0, 1), (2, 3)),
        {}, {"size": 3}, {"first": 0, "last": 1}, {"a": [{"b": ()}]},
        valueset, (valueset,), Box([valueset]), [Box([valueset])], {"a": valueset},
        nested(25), [0] * 3999,
    ]
