"""What the tests share: sets, lines, ranges and filters worked out one by one, and objects of every kind."""

import unittest
from itertools import combinations, permutations, product

from scanranges.boxes import Box
from scanranges.diagrams import Diagram
from scanranges.errors import ScanError
from scanranges.stores import Store
from scanranges.valuesets import ValueSet

HUGE = 10 ** 30
ONE = ("in", 0, [(3, 3)])


class Base(unittest.TestCase):
    """A test case that asks for an error of exactly one class."""

    def exactly(self, error, call, *args, **more):
        with self.assertRaises(ScanError) as caught:
            call(*args, **more)
        self.assertIs(type(caught.exception), error)


def values_of(stretches):
    return [value for first, last in stretches for value in range(first, last + 1)]


def stretches_of(values):
    found = []
    for value in sorted(values):
        if found and found[-1][1] == value - 1:
            found[-1] = (found[-1][0], value)
        else:
            found.append((value, value))
    return found


def set_of(size, values):
    return ValueSet(size, stretches_of(values))


def all_value_lists(size):
    return [[value for value in range(size) if bits[value]] for bits in product((0, 1), repeat=size)]


def all_boxes(sizes):
    columns = [[set_of(size, values) for values in all_value_lists(size)] for size in sizes]
    return [Box(list(sets)) for sets in product(*columns)]


def example():
    """The box of the document's example."""
    return Box([ValueSet(10, [(3, 3)]), ValueSet(7, [(0, 1), (5, 6)]), ValueSet(100, [(20, 49)])])


def all_up(columns):
    return [(column, True) for column in columns]


def all_orders(many):
    """Each list of columns with all directions."""
    directions = list(product((True, False), repeat=many))
    return [list(zip(columns, ups)) for columns in permutations(range(many)) for ups in directions]


def line_of(sizes, order):
    """All keys, one after the other along the line."""
    runs = [range(sizes[column]) if up else range(sizes[column] - 1, -1, -1) for column, up in order]
    found = []
    for values in product(*runs):
        key = [None] * len(sizes)
        for (column, _), value in zip(order, values):
            key[column] = value
        found.append(tuple(key))
    return found


def position(sizes, order, key):
    """How many keys stand before a key on the line."""
    found = 0
    for column, up in order:
        found = found * sizes[column] + (key[column] if up else sizes[column] - 1 - key[column])
    return found


def key_at(sizes, order, place):
    key = [None] * len(sizes)
    for column, up in reversed(order):
        place, value = divmod(place, sizes[column])
        key[column] = value if up else sizes[column] - 1 - value
    return tuple(key)


def ranges_on(line, box):
    """The ranges of a box as lists of keys, found key by key."""
    found = []
    before = False
    for key in line:
        inside = key in box
        if inside and not before:
            found.append([])
        if inside:
            found[-1].append(key)
        before = inside
    return found


def holds(condition, key):
    """Whether a condition lets a key through, straight from what its words say."""
    if condition[0] == "in":
        return any([first <= key[condition[1]] <= last for first, last in condition[2]])
    if condition[0] == "not":
        return not holds(condition[1], key)
    if condition[0] == "and":
        return holds(condition[1], key) and holds(condition[2], key)
    return holds(condition[1], key) or holds(condition[2], key)


def kept_on(line, condition):
    """The keys of a line that a condition lets through."""
    return [key for key in line if holds(condition, key)]


def runs_on(line, kept):
    """The ranges of some keys as lists of keys, found key by key."""
    inside = {key: True for key in kept}
    return ranges_on(line, inside)


def rank(wish, key):
    """What comes first by a wish has the lesser one."""
    return [key[column] if up else -key[column] for column, up in wish]


def turned(order):
    return [(column, not up) for column, up in order]


def condition_of(box):
    """The condition that lets the keys of a box through."""
    parts = [("in", column, one.stretches) for column, one in enumerate(box.sets)]
    whole = parts[0]
    for part in parts[1:]:
        whole = ("and", whole, part)
    return whole


def deep(levels):
    """A condition so many levels deep, by `not` alone."""
    found = ONE
    for _ in range(levels - 1):
        found = ("not", found)
    return found


def wide(sets, word="and"):
    """A condition with so many conditions of the first kind, one level deeper for each."""
    found = ONE
    for _ in range(sets - 1):
        found = (word, ONE, found)
    return found


def needed_on(line, keys, kept):
    """R3: each key of the table, and the end, for which a key of the filter lies behind the key before, up to it."""
    found = []
    waiting = False
    for key in line:
        waiting = waiting or key in kept
        if key in keys:
            if waiting:
                found.append(key)
            waiting = False
    return found + [None] if waiting else found


def side_of(kept, wish):
    """What is_sorted says, from all pairs of keys, which stand in the order of the line."""
    pairs = [(rank(wish, first), rank(wish, second)) for first, second in combinations(kept, 2)]
    if all([first <= second for first, second in pairs]):
        return "forwards"
    return "backwards" if all([first >= second for first, second in pairs]) else None


def gaps_on(line, box):
    """The lengths of the gaps in the order of the line, found key by key."""
    places = {key: place for place, key in enumerate(line)}
    found = ranges_on(line, box)
    return [places[after[0]] - places[before[-1]] - 1 for before, after in zip(found, found[1:])]


def counted(lengths):
    return [(length, lengths.count(length)) for length in sorted(set(lengths))]


def counts_of(box):
    """For each list of columns how many ranges the box has, by R1."""
    sets = [(one.total, len(one.stretches), one.wraps) for one in box.sets]
    found = {}

    def go_on(columns, many, joined):
        if len(columns) == len(sets):
            found[columns] = many
        for column, (total, stretches, wraps) in enumerate(sets):
            if column not in columns:
                go_on((column,) + columns, total * many - (total - stretches) * joined, joined if wraps else 0)

    go_on((), 1, 1)
    return {columns: many if box.total else 0 for columns, many in found.items()}


def best_lists(box):
    """The lists of columns with the fewest ranges, ascending."""
    counts = counts_of(box)
    fewest = min(counts.values())
    return sorted([columns for columns in counts if counts[columns] == fewest])


class Chooser:
    """Chooses again and again, always in the same way, so that a test can take some of very many."""

    def __init__(self, start):
        self.state = start

    def one(self, options):
        self.state = (self.state * 6364136223846793005 + 1442695040888963407) & ((1 << 64) - 1)
        return options[(self.state >> 33) % len(options)]


def spread(many, start=0, step=2):
    """So many stretches of one value each."""
    return [(start + step * at, start + step * at) for at in range(many)]


def great_boxes():
    """Boxes of up to eight columns with up to 10 ** 30 values, none of them empty."""
    single, full = ValueSet(HUGE, [(77, 77)]), ValueSet(HUGE, [(0, HUGE - 1)])
    many = ValueSet(HUGE, spread(12, 5, 10 ** 28))
    ends = ValueSet(HUGE, [(0, 10 ** 20), (10 ** 25, 10 ** 25 + 3), (HUGE - 9, HUGE - 1)])
    first, last = ValueSet(HUGE, [(0, 10 ** 12)]), ValueSet(HUGE, [(10 ** 29, HUGE - 1)])
    idle, week = ValueSet(1, [(0, 0)]), ValueSet(7, [(0, 1), (5, 6)])
    rows = [
        [single], [full], [many], [ends], [idle], [ends, full], [full, ends], [week, ends, week], [many, idle, ends],
        [first, last, ends, many], [full, idle, ends, week, ends], [ends] * 8, [full] * 8, [many] * 8,
        [single, full, many, ends, first, last, idle, week], [week, ends, full, idle, ends, week, ends, full],
        [first, ends, week, full, ends, idle, week, ends], [ValueSet(HUGE, [(0, 0), (HUGE - 1, HUGE - 1)])] * 8,
    ]
    return [Box(sets) for sets in rows]


def some_orders(many):
    columns = list(range(many))
    return [
        all_up(columns), [(column, False) for column in reversed(columns)],
        [(column, column % 2 == 0) for column in columns[1:] + columns[:1]],
        [(column, column % 3 == 1) for column in columns[many // 2:] + columns[:many // 2][::-1]],
    ]


def some_condition(choose, sizes, sets):
    """A condition with so many conditions of the first kind, always the same ones from the same chooser."""
    if choose.one((True, False, False, False)):
        return ("not", some_condition(choose, sizes, sets))
    if sets == 1:
        column = choose.one(range(len(sizes)))
        return ("in", column, some_stretches(choose, sizes[column]))
    front = choose.one(range(1, sets))
    word = choose.one(("and", "or"))
    return (word, some_condition(choose, sizes, front), some_condition(choose, sizes, sets - front))


def some_stretches(choose, size):
    """Stretches of a column: of a small one any, of a great one a few between round and odd values."""
    if size <= 12:
        return stretches_of([value for value in range(size) if choose.one((True, False))])
    places = [0, 1, 5, 999, 10 ** 6, 10 ** 9 + 7, size // 3, size // 2, size // 2 + 1, size - 2, size - 1]
    places = sorted([place for place in set(places) if 0 <= place < size])
    found = []
    for place in places:
        if choose.one((True, False)) and (not found or found[-1][1] + 1 < place):
            last = place + choose.one((0, 0, 1, 2, size // 50))
            found.append((place, min(last, size - 1)))
    return [one for at, one in enumerate(found) if at == len(found) - 1 or one[1] + 1 < found[at + 1][0]]


def some_order(choose, many):
    columns = list(range(many))
    found = []
    while columns:
        column = choose.one(columns)
        columns.remove(column)
        found.append((column, choose.one((True, False))))
    return found


def some_keys(choose, line, most):
    """Up to so many keys of a line, each once, in any order."""
    rest = list(line)
    found = []
    for _ in range(min(choose.one(range(most + 1)), len(rest))):
        key = choose.one(rest)
        rest.remove(key)
        found.append(key)
    return found


def some_wish(choose, order):
    """A wish that often has something to do with an order."""
    many = len(order)
    found = list(order[:choose.one(range(many + 1))]) if choose.one((True, False)) else []
    for _ in range(choose.one(range(4))):
        found.insert(choose.one(range(len(found) + 1)), (choose.one(range(many)), choose.one((True, False))))
    return turned(found) if choose.one((True, False, False)) else found


def nested(depth):
    thing = 1
    for _ in range(depth):
        thing = [thing]
    return thing


def odd_objects():
    """Objects of every kind that the document allows for any object; most places take few of them."""
    valueset = ValueSet(3, [(0, 1)])
    return [
        None, True, False, 0, 1, -1, 7, 10 ** 59, -10 ** 59,
        "", "0", "01", "text\n", "x" * 4000,
        [], [[]], [()], [0], [1, 2], [None], [True], ["0-1"], [[0, 1]], [(0, 1, 2)], [(0,)], [valueset, None],
        (), (0,), ((0, 1),), (0, 1), (None, None), ("a", "b"), (True, False), ((0, 1), (2, 3)),
        {}, {"size": 3}, {"first": 0, "last": 1}, {"a": [{"b": ()}]},
        valueset, (valueset,), Box([valueset]), [Box([valueset])], {"a": valueset},
        nested(25), [0] * 3999,
        Diagram([3], [(0, True)], ("in", 0, [])), [Diagram([3], [(0, True)], ("in", 0, []))], Store([3], [[(0, True)]]),
        (Store([3], [[(0, True)]]),), ("in", 0, []), ("not", 1), ["in", 0, []], ("and",), ("or", None, ()),
    ]
