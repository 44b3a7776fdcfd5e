"""What the tests share: sets worked out value by value, and objects of every kind."""

import unittest
from itertools import product

from scanranges.boxes import Box
from scanranges.errors import ScanError
from scanranges.valuesets import ValueSet

HUGE = 10 ** 30


class Base(unittest.TestCase):
    """A test case that asks for an error of exactly one class."""

    def exactly(self, error, call, *args, **more):
        with self.assertRaises(ScanError) as caught:
            call(*args, **more)
        self.assertIs(type(caught.exception), error)


def values_of(stretches):
    return [value for first, last in stretches for value in range(first, last + 1)]


def stretches_of(values):
    found = []
    for value in sorted(values):
        if found and found[-1][1] == value - 1:
            found[-1] = (found[-1][0], value)
        else:
            found.append((value, value))
    return found


def set_of(size, values):
    return ValueSet(size, stretches_of(values))


def all_value_lists(size):
    return [[value for value in range(size) if bits[value]] for bits in product((0, 1), repeat=size)]


def spread(many, start=0, step=2):
    """So many stretches of one value each."""
    return [(start + step * at, start + step * at) for at in range(many)]


def nested(depth):
    thing = 1
    for _ in range(depth):
        thing = [thing]
    return thing


def odd_objects():
    """Objects of every kind that the document allows for any object; most places take few of them."""
    valueset = ValueSet(3, [(0, 1)])
    return [
        None, True, False, 0, 1, -1, 7, 10 ** 59, -10 ** 59,
        "", "0", "01", "text\n", "x" * 4000,
        [], [[]], [()], [0], [1, 2], [None], [True], ["0-1"], [[0, 1]], [(0, 1, 2)], [(0,)], [valueset, None],
        (), (0,), ((0, 1),), (0, 1), (None, None), ("a", "b"), (True, False), ((0, 1), (2, 3)),
        {}, {"size": 3}, {"first": 0, "last": 1}, {"a": [{"b": ()}]},
        valueset, (valueset,), Box([valueset]), [Box([valueset])], {"a": valueset},
        nested(25), [0] * 3999,
    ]
