import unittest
from itertools import permutations, product

from brute import (HUGE, Base, Chooser, all_boxes, all_orders, all_up, all_value_lists, condition_of, example,
                   great_boxes, holds, kept_on, key_at, line_of, odd_objects, position, runs_on, set_of, some_condition,
                   some_order, some_orders, spread, stretches_of, turned)
from scanranges import diagrams
from scanranges.boxes import Box
from scanranges.diagrams import Diagram, parting_key
from scanranges.errors import InvalidCondition, InvalidKey, InvalidNumber, OtherSizes, TooMany
from scanranges.ranges import nth_range, range_count, range_of

NO_KEYS = ("in", 0, [])
SMALL = ([1], [4], [1, 1], [3, 4], [2, 5], [1, 3, 2], [3, 2, 3], [2, 2, 2, 2], [3, 1, 2, 3], [2, 2, 1, 2, 2])


def chosen(start, many, most_sets=7):
    """Some sizes, orders and conditions of small columns."""
    choose = Chooser(start)
    for at in range(many):
        sizes = choose.one(SMALL)
        yield sizes, some_order(choose, len(sizes)), some_condition(choose, sizes, 1 + at % most_sets)


def great_filters(start=1, many=30):
    """Sizes, orders and conditions of columns of up to 10 ** 30 values."""
    choose = Chooser(start)
    found = []
    for at in range(many):
        sizes = [choose.one((HUGE, HUGE, 10 ** 9, 10 ** 29 + 3, 7, 1, 100)) for _ in range(1 + at % 8)]
        found.append((sizes, some_order(choose, len(sizes)), some_condition(choose, sizes, 1 + at % 6)))
    return found


def all_keys(sizes):
    return ("in", 0, [(0, sizes[0] - 1)])


def some_indices(many):
    found = {0, 1, 2, many // 3, many // 2, many // 2 + 1, many * 5 // 7, many - 3, many - 2, many - 1}
    return sorted([index for index in found if 0 <= index < many])


def nodes_by_hand(sizes, order, condition):
    """What point 12 says of nodes(), from all keys."""
    line = line_of(sizes, order)
    columns = [column for column, _ in order]
    found = 0
    for many in range(len(columns)):
        left = {}
        whole = 1
        for column in columns[many:]:
            whole *= sizes[column]
        for key in line:
            front = tuple([key[column] for column in columns[:many]])
            left.setdefault(front, set())
            if holds(condition, key):
                left[front].add(tuple([key[column] for column in columns[many:]]))
        found += len({frozenset(one) for one in left.values() if 0 < len(one) < whole})
    return found


class KeyByKey(Base):
    """Point 12: against all keys of the line."""

    def check(self, sizes, order, condition):
        diagram = Diagram(sizes, order, condition)
        told = (sizes, order, condition)
        line = line_of(sizes, order)
        kept = kept_on(line, condition)
        self.assertEqual(diagram.total, len(kept), told)
        self.assertEqual([key in diagram for key in line], [holds(condition, key) for key in line], told)
        self.assertEqual([diagram.nth_key(index) for index in range(len(kept))], kept, told)
        before = 0
        for key in line:
            self.assertEqual(diagram.key_index(key), before, told)
            self.assertEqual(diagram.next_key(key), kept[before] if before < len(kept) else None, told)
            before += holds(condition, key)
        runs = runs_on(line, kept)
        self.assertEqual(diagram.range_total, len(runs), told)
        self.assertEqual([diagram.nth_range(index) for index in range(len(runs))],
                         [(keys[0], keys[-1]) for keys in runs], told)
        index_of = {key: index for index, keys in enumerate(runs) for key in keys}
        self.assertEqual([diagram.range_of(key) for key in line], [index_of.get(key) for key in line], told)
        for index in (-1, len(kept)):
            self.exactly(InvalidNumber, diagram.nth_key, index)
        for index in (-1, len(runs)):
            self.exactly(InvalidNumber, diagram.nth_range, index)

    def test_some_filters(self):
        for sizes, order, condition in chosen(1, 900):
            self.check(sizes, order, condition)

    def test_each_set_of_one_column(self):
        for size in range(1, 8):
            for values in all_value_lists(size):
                for up in (True, False):
                    self.check([size], [(0, up)], ("in", 0, stretches_of(values)))

    def test_all_orders_of_some_filters(self):
        choose = Chooser(6)
        for sizes in ([3, 2, 2], [2, 1, 4]):
            for order in all_orders(3):
                for _ in range(4):
                    self.check(sizes, order, some_condition(choose, sizes, choose.one((3, 5, 8))))

    def test_no_keys_and_all_keys(self):
        for sizes in SMALL:
            order = [(column, column % 2 == 0) for column in reversed(range(len(sizes)))]
            for condition in (NO_KEYS, all_keys(sizes), ("not", NO_KEYS), ("not", all_keys(sizes)),
                              ("and", all_keys(sizes), NO_KEYS), ("or", NO_KEYS, all_keys(sizes))):
                self.check(sizes, order, condition)

    def test_kinds_of_values(self):
        diagram = Diagram([3, 2], [(1, False), (0, True)], ("or", ("in", 0, [(1, 1)]), ("in", 1, [(1, 1)])))
        self.assertEqual([type(one) for one in (diagram.total, diagram.range_total, diagram.nodes())], [int] * 3)
        self.assertEqual([type(diagram.key_index((0, 0))), type(diagram.range_of((1, 0)))], [int, int])
        for key in (diagram.nth_key(0), diagram.next_key((0, 0))) + diagram.nth_range(0):
            self.assertEqual([type(key)] + [type(value) for value in key], [tuple, int, int])
        self.assertIs(type(diagram.nth_range(0)), tuple)
        self.assertIs((0, 0) in diagram, False)
        self.assertIs((1, 0) in diagram, True)

    def test_sizes_and_order(self):
        sizes, order = [3, 2], [(1, False), (0, True)]
        diagram = Diagram(sizes, order, NO_KEYS)
        self.assertEqual((diagram.sizes, diagram.order), (sizes, order))


class GreatColumns(Base):
    def test_indices_lead_back_and_forth(self):
        for sizes, order, condition in great_filters() + great_filters(5):
            diagram = Diagram(sizes, order, condition)
            for index in some_indices(diagram.total):
                key = diagram.nth_key(index)
                self.assertTrue(holds(condition, key) and key in diagram)
                self.assertEqual(diagram.key_index(key), index)
                self.assertEqual(diagram.next_key(key), key)

    def test_keys_beside_each_other(self):
        for sizes, order, condition in great_filters(2):
            diagram = Diagram(sizes, order, condition)
            for index in some_indices(diagram.total)[:-1]:
                first, second = diagram.nth_key(index), diagram.nth_key(index + 1)
                place, behind = position(sizes, order, first), position(sizes, order, second)
                self.assertLess(place, behind)
                if behind > place + 1:
                    between = key_at(sizes, order, place + (behind - place) // 2)
                    self.assertFalse(holds(condition, between))
                    self.assertEqual(diagram.key_index(between), index + 1)
                    self.assertEqual(diagram.next_key(between), second)

    def test_ranges_of_a_filter_and_of_all_others_alternate(self):
        for sizes, order, condition in great_filters(3):
            diagram, others = Diagram(sizes, order, condition), Diagram(sizes, order, ("not", condition))
            for one, other, told in ((diagram, others, condition), (others, diagram, ("not", condition))):
                for index in some_indices(one.range_total):
                    self.check_range(sizes, order, one, other, index, told)

    def check_range(self, sizes, order, one, other, index, condition):
        first, last = one.nth_range(index)
        start, end = position(sizes, order, first), position(sizes, order, last)
        self.assertLessEqual(start, end)
        self.assertEqual(one.key_index(last) - one.key_index(first), end - start)
        for place in {start, end, start + (end - start) // 2, start + (end - start) // 7}:
            key = key_at(sizes, order, place)
            self.assertTrue(holds(condition, key))
            self.assertEqual((one.range_of(key), other.range_of(key)), (index, None))
        whole = 1
        for size in sizes:
            whole *= size
        ahead = other.range_of(key_at(sizes, order, start - 1)) if start > 0 else None
        behind = other.range_of(key_at(sizes, order, end + 1)) if end < whole - 1 else None
        self.assertEqual(ahead is None, start == 0)
        self.assertEqual(behind is None, end == whole - 1)
        if ahead is not None and behind is not None:
            self.assertEqual(behind, ahead + 1)
        if ahead is not None:
            self.assertIn(ahead, (index, index - 1))
        self.assertLessEqual(abs(one.range_total - other.range_total), 1)
        self.assertEqual(one.total + other.total, whole)

    def test_all_is_told_from_the_other_end(self):
        for sizes, order, condition in great_filters(4):
            diagram, back = Diagram(sizes, order, condition), Diagram(sizes, turned(order), condition)
            self.assertEqual((diagram.total, diagram.range_total), (back.total, back.range_total))
            for index in some_indices(diagram.total):
                key = diagram.nth_key(index)
                self.assertEqual(back.nth_key(diagram.total - 1 - index), key)
                self.assertEqual(back.key_index(key), diagram.total - 1 - index)
                self.assertEqual(back.range_of(key), diagram.range_total - 1 - diagram.range_of(key))
            for index in some_indices(diagram.range_total):
                self.assertEqual(back.nth_range(diagram.range_total - 1 - index), diagram.nth_range(index)[::-1])

    def test_known_ones(self):
        sizes = [HUGE] * 8
        order = all_up(range(8))
        full = Diagram(sizes, order, ("not", NO_KEYS))
        self.assertEqual((full.total, full.range_total, full.nodes()), (HUGE ** 8, 1, 0))
        self.assertEqual(full.nth_key(HUGE ** 8 - 1), (HUGE - 1,) * 8)
        self.assertEqual(full.nth_range(0), ((0,) * 8, (HUGE - 1,) * 8))
        self.assertEqual(full.key_index((1,) + (0,) * 7), HUGE ** 7)
        last = Diagram(sizes, order, ("in", 7, [(5, 5)]))
        self.assertEqual((last.total, last.range_total, last.nodes()), (HUGE ** 7, HUGE ** 7, 8))
        self.assertEqual(last.nth_range(HUGE ** 7 - 1), ((HUGE - 1,) * 7 + (5,),) * 2)
        self.assertEqual(last.range_of((1,) + (0,) * 6 + (5,)), HUGE ** 6)
        self.assertEqual(last.next_key((3,) * 8), (3,) * 7 + (5,))
        self.assertEqual(last.next_key((3,) * 7 + (6,)), (3,) * 6 + (4, 5))
        self.assertIsNone(last.next_key((HUGE - 1,) * 7 + (6,)))

    def test_twelve_sets_of_twelve_stretches(self):
        condition = ("in", 0, spread(12, 0, 40))
        for at in range(1, 12):
            condition = ("or", ("in", 0, spread(12, 3 * at, 40)), condition)
        diagram = Diagram([500], all_up([0]), condition)
        kept = kept_on(line_of([500], all_up([0])), condition)
        self.assertEqual(diagram.total, len(kept))
        self.assertEqual(diagram.range_total, len(runs_on(line_of([500], all_up([0])), kept)))
        self.assertEqual([diagram.nth_key(index) for index in range(diagram.total)], kept)


class WrongNumbersAndKeys(Base):
    def setUp(self):
        self.diagram = Diagram([10, 7, 100], all_up([0, 1, 2]), condition_of(example()))

    def test_indices(self):
        for index in (-1, -120, -121, 120, 121, 10 ** 59, -10 ** 59, True, False):
            self.exactly(InvalidNumber, self.diagram.nth_key, index)
        for index in (-1, -4, -5, 4, 5, 10 ** 59, -10 ** 59, True, False):
            self.exactly(InvalidNumber, self.diagram.nth_range, index)
        for empty in (Diagram([3], all_up([0]), NO_KEYS), Diagram([HUGE] * 8, all_up(range(8)), NO_KEYS)):
            for index in (0, -1, 1):
                self.exactly(InvalidNumber, empty.nth_key, index)
                self.exactly(InvalidNumber, empty.nth_range, index)

    def test_great_indices(self):
        for sizes, order, condition in great_filters(6, 12):
            diagram = Diagram(sizes, order, condition)
            for index in (-1, diagram.total, diagram.total + 1, diagram.total * 10 ** 9 + 1, -diagram.total - 1):
                self.exactly(InvalidNumber, diagram.nth_key, index)
            for index in (-1, diagram.range_total, diagram.range_total * 10 ** 9 + 1, -diagram.range_total - 1):
                self.exactly(InvalidNumber, diagram.nth_range, index)

    def test_keys(self):
        bad = [
            (), (3,), (3, 0), (3, 0, 20, 0), (-1, 0, 20), (10, 0, 20), (3, -1, 20), (3, 7, 20), (3, 0, -1), (3, 0, 100),
            (3, 0, 10 ** 59), (True, 0, 20), (3, False, 20), (3, 0, True), [3, 0, 20], [(3, 0, 20)], ((3, 0, 20),),
            (3, 0, "20"), (3, 0, None), (3, (0,), 20), (3, [0], 20), "3 0 20", {3: 0}, (3, 0, self.diagram),
            self.diagram, None, True, 0, 3, ("in", 0, []),
        ]
        for key in bad + odd_objects():
            with self.subTest(key=key):
                self.assertIs(key in self.diagram, False)
                for call in (self.diagram.key_index, self.diagram.range_of, self.diagram.next_key):
                    self.exactly(InvalidKey, call, key)

    def test_keys_for_filters_without_keys_and_with_all(self):
        for condition in (NO_KEYS, ("not", NO_KEYS)):
            diagram = Diagram([3, 2], all_up([1, 0]), condition)
            for key in ((3, 0), (0, 2), (0,), (True, 0), (0, False), [0, 0], None):
                self.assertIs(key in diagram, False)
                for call in (diagram.key_index, diagram.range_of, diagram.next_key):
                    self.exactly(InvalidKey, call, key)


class Nodes(Base):
    def test_from_all_keys(self):
        for sizes, order, condition in chosen(11, 700, 9):
            diagram = Diagram(sizes, order, condition)
            many = nodes_by_hand(sizes, order, condition)
            self.assertEqual(diagram.nodes(), many, (sizes, order, condition))
            self.assertEqual((~diagram).nodes(), many)
            self.assertEqual(Diagram(sizes, turned(order), condition).nodes(), many)

    def test_no_key_and_all_keys(self):
        for sizes in list(SMALL) + [[HUGE] * 8]:
            for condition in (NO_KEYS, all_keys(sizes), ("and", ("in", 0, [(0, 0)]), ("not", ("in", 0, [(0, 0)])))):
                self.assertEqual(Diagram(sizes, all_up(range(len(sizes))), condition).nodes(), 0)

    def test_known_ones(self):
        order = all_up([0, 1, 2])
        self.assertEqual(Diagram([10, 7, 100], order, condition_of(example())).nodes(), 3)
        self.assertEqual(Diagram([10, 7, 100], order, ("in", 2, [(5, 5)])).nodes(), 3)
        self.assertEqual(Diagram([10, 7, 100], order, ("in", 0, [(5, 5)])).nodes(), 1)
        self.assertEqual(Diagram([10, 7, 100], order, ("in", 1, [(5, 5)])).nodes(), 2)

    def test_a_column_that_plays_no_role_behind_others(self):
        condition = ("or", ("in", 0, [(0, 0)]), ("in", 3, [(1, 1)]))
        self.assertEqual(Diagram([2, 2, 2, 2], all_up(range(4)), condition).nodes(), 4)
        self.assertEqual(nodes_by_hand([2, 2, 2, 2], all_up(range(4)), condition), 4)

    def test_some_hundred(self):
        diagram = agreeing(3, 4, "or")
        self.assertEqual(diagram.nodes(), 160)
        self.assertEqual(diagram.total, 3 ** 8 - 3 ** 4 * 2 ** 4)
        line = line_of(diagram.sizes, diagram.order)
        kept = [key for key in line if any([key[at] == key[at + 4] for at in range(4)])]
        self.assertEqual([key for key in line if key in diagram], kept)
        self.assertEqual([diagram.key_index(key) for key in kept[::7]], list(range(0, len(kept), 7)))
        self.assertEqual(diagram.range_total, len(runs_on(line, kept)))

    def test_some_thousand(self):
        # Two columns of nine values agree if they agree in each of two parts of them, so all must be kept apart.
        first = agreeing(9, 4, "and", [[(0, 2)], [(3, 5)], [(6, 8)]])
        second = agreeing(9, 4, "and", [[(at, at), (at + 3, at + 3), (at + 6, at + 6)] for at in range(3)])
        self.assertEqual((first.nodes(), second.nodes()), (160, 160))
        both = first & second
        self.assertEqual(both.nodes(), 9 ** 4 + 2 * (9 ** 3 + 9 ** 2 + 9) + 1)
        self.assertEqual((both.total, both.range_total), (9 ** 4, 9 ** 4))
        kept = [front + front for front in product(range(9), repeat=4)]
        self.assertEqual([both.nth_key(index) for index in range(0, 9 ** 4, 50)], kept[::50])
        self.assertEqual([both.key_index(key) for key in kept[::50]], list(range(0, 9 ** 4, 50)))
        self.assertEqual(both.nth_range(4000), (kept[4000], kept[4000]))
        self.assertEqual(both.next_key((1, 2, 3, 4, 1, 2, 3, 5)), (1, 2, 3, 5, 1, 2, 3, 5))
        others = ~both
        self.assertEqual((others.nodes(), others.total), (both.nodes(), 9 ** 8 - 9 ** 4))
        self.assertEqual(others.range_total, 9 ** 4 - 1)
        self.assertEqual(~others, both)
        self.assertEqual(parting_key(both, others), (0,) * 8)
        self.assertEqual(parting_key(both, first), (0, 0, 0, 0, 0, 0, 0, 1))
        self.assertIsNone(parting_key(both, ~others))
        self.exactly(TooMany, lambda: both & first)


def agreeing(size, half, word, parts=None):
    """Column i and column i + half have a value of the same part, for all i or for one or more of them."""
    columns = range(2 * half)
    whole = None
    for at in range(half):
        condition = None
        for part in parts or [[(value, value)] for value in range(size)]:
            one = ("and", ("in", at, part), ("in", at + half, part))
            condition = one if condition is None else ("or", condition, one)
        diagram = Diagram([size] * len(columns), all_up(columns), condition)
        if whole is None:
            whole = diagram
        else:
            whole = whole & diagram if word == "and" else whole | diagram
    return whole


class Equality(Base):
    def test_the_same_keys_by_other_conditions(self):
        one, other, third = ("in", 0, [(1, 1), (3, 3)]), ("in", 1, [(0, 0)]), ("in", 2, [(1, 2)])
        rows = [
            (one, ("not", ("not", one))), (one, ("or", ("in", 0, [(1, 1)]), ("in", 0, [(3, 3)]))),
            (one, ("and", one, one)), (one, ("or", one, NO_KEYS)), (one, ("not", ("in", 0, [(0, 0), (2, 2)]))),
            (("and", one, other), ("and", other, one)), (("or", one, other), ("or", other, one)),
            (("not", ("and", one, other)), ("or", ("not", one), ("not", other))),
            (("and", one, ("or", other, third)), ("or", ("and", one, other), ("and", one, third))),
            (("or", one, ("and", other, third)), ("and", ("or", one, other), ("or", one, third))),
            (("or", one, ("and", one, third)), one), (("and", one, ("or", other, ("not", other))), one),
            (("and", one, ("not", one)), NO_KEYS), (("or", third, ("not", third)), ("not", ("in", 2, []))),
        ]
        for order in all_orders(3):
            for first, second in rows:
                mine, theirs = Diagram([4, 2, 3], order, first), Diagram([4, 2, 3], order, second)
                self.assertIs(mine == theirs, True)
                self.assertIs(mine != theirs, False)
                self.assertIsNone(parting_key(mine, theirs))
                self.assertEqual((mine.total, mine.range_total, mine.nodes()),
                                 (theirs.total, theirs.range_total, theirs.nodes()))

    def test_against_all_keys(self):
        choose = Chooser(21)
        equal = 0
        for at in range(500):
            sizes = choose.one(([2, 2], [3, 2], [2, 1, 2], [4]))
            order = some_order(choose, len(sizes))
            first, second = some_condition(choose, sizes, 1 + at % 4), some_condition(choose, sizes, 1 + at % 5)
            line = line_of(sizes, order)
            same = kept_on(line, first) == kept_on(line, second)
            mine, theirs = Diagram(sizes, order, first), Diagram(sizes, order, second)
            self.assertIs(mine == theirs, same)
            self.assertIs(mine != theirs, not same)
            equal += same
        self.assertGreater(equal, 20)

    def test_one_key_more_or_less(self):
        sizes, order = [HUGE, 7, HUGE], [(2, False), (0, True), (1, True)]
        whole = ("and", ("in", 0, [(5, 10 ** 20)]), ("in", 2, [(7, 10 ** 25)]))
        diagram = Diagram(sizes, order, whole)
        for key in ((5, 0, 7), (10 ** 20, 6, 10 ** 25), (10 ** 12, 3, 10 ** 12)):
            alone = None
            for column, value in enumerate(key):
                part = ("in", column, [(value, value)])
                alone = part if alone is None else ("and", alone, part)
            less = Diagram(sizes, order, ("and", whole, ("not", alone)))
            self.assertFalse(less == diagram)
            self.assertEqual(less.total, diagram.total - 1)
            self.assertEqual(less | Diagram(sizes, order, alone), diagram)
            self.assertEqual((parting_key(less, diagram), parting_key(diagram, less)), (key, key))
            self.assertFalse(key in less)

    def test_other_sizes_orders_and_directions(self):
        diagram = Diagram([4, 4], all_up([0, 1]), NO_KEYS)
        for other in (Diagram([4, 5], all_up([0, 1]), NO_KEYS), Diagram([4], all_up([0]), NO_KEYS),
                      Diagram([4, 4], all_up([1, 0]), NO_KEYS), Diagram([4, 4], [(0, True), (1, False)], NO_KEYS),
                      Diagram([4, 4, 1], all_up([0, 1, 2]), NO_KEYS)):
            self.assertIs(diagram == other, False)
            self.assertIs(other == diagram, False)
            self.assertIs(diagram != other, True)

    def test_any_object(self):
        diagram = Diagram([3], all_up([0]), ("in", 0, [(1, 1)]))
        for thing in odd_objects() + [condition_of(example()), [3], diagram.order, diagram.levels]:
            self.assertIs(diagram == thing, False)
            self.assertIs(diagram != thing, True)

    def test_not_for_dict_keys(self):
        self.assertRaises(TypeError, hash, Diagram([3], all_up([0]), NO_KEYS))


class Operators(Base):
    def test_against_conditions_put_together(self):
        choose = Chooser(31)
        for at in range(400):
            sizes = choose.one(SMALL)
            order = some_order(choose, len(sizes))
            first, second = some_condition(choose, sizes, 1 + at % 6), some_condition(choose, sizes, 1 + at % 5)
            mine, theirs = Diagram(sizes, order, first), Diagram(sizes, order, second)
            for found, condition in ((mine & theirs, ("and", first, second)), (mine | theirs, ("or", first, second)),
                                     (~mine, ("not", first))):
                self.assertIs(type(found), Diagram)
                self.assertEqual(found, Diagram(sizes, order, condition))
                self.assertEqual((found.sizes, found.order), (sizes, order))
                self.assertEqual(found.total, len(kept_on(line_of(sizes, order), condition)))

    def test_great_columns(self):
        choose = Chooser(33)
        for sizes, order, first in great_filters(7):
            second = some_condition(choose, sizes, 3)
            mine, theirs = Diagram(sizes, order, first), Diagram(sizes, order, second)
            self.assertEqual(mine & theirs, Diagram(sizes, order, ("and", first, second)))
            self.assertEqual(mine | theirs, Diagram(sizes, order, ("or", first, second)))
            self.assertEqual(~mine, Diagram(sizes, order, ("not", first)))
            self.assertEqual((mine & theirs).total + (mine | theirs).total, mine.total + theirs.total)

    def test_again_and_again(self):
        choose = Chooser(35)
        sizes, order = [3, 2, 4], [(1, False), (2, True), (0, False)]
        line = line_of(sizes, order)
        diagram, kept = Diagram(sizes, order, NO_KEYS), {key: False for key in line}
        for _ in range(300):
            condition = some_condition(choose, sizes, 3)
            other = Diagram(sizes, order, condition)
            word = choose.one(("and", "or", "or", "not", "and not"))
            if word == "and":
                diagram, kept = diagram & other, {key: kept[key] and holds(condition, key) for key in line}
            elif word == "or":
                diagram, kept = other | diagram, {key: kept[key] or holds(condition, key) for key in line}
            elif word == "not":
                diagram, kept = ~diagram, {key: not kept[key] for key in line}
            else:
                diagram, kept = diagram & ~other, {key: kept[key] and not holds(condition, key) for key in line}
            self.assertEqual([key for key in line if key in diagram], [key for key in line if kept[key]])
            self.assertEqual(diagram.total, sum(kept.values()))

    def test_more_stretches_than_a_set_may_have(self):
        diagram = Diagram([1000], all_up([0]), NO_KEYS)
        for value in range(0, 1000, 3):
            diagram = diagram | Diagram([1000], all_up([0]), ("in", 0, [(value, value)]))
        self.assertEqual((diagram.total, diagram.range_total, diagram.nodes()), (334, 334, 1))
        self.assertEqual(diagram.nth_range(100), ((300,), (300,)))
        self.assertEqual((~diagram).nth_range(100), ((301,), (302,)))

    def test_nothing_changes(self):
        first = Diagram([3, 4], all_up([1, 0]), ("in", 0, [(1, 1)]))
        second = Diagram([3, 4], all_up([1, 0]), ("in", 1, [(1, 2)]))
        kept = [first.nth_key(index) for index in range(first.total)]
        for found in (first & second, first | second, ~first, second & first, first & first, first | first):
            self.assertIsNot(found, first)
            self.assertEqual([first.nth_key(index) for index in range(first.total)], kept)
            self.assertEqual((first.total, second.total), (4, 6))
            self.assertIs(~found == found, False)

    def test_no_diagrams(self):
        diagram = Diagram([3], all_up([0]), ("in", 0, [(1, 1)]))
        for thing in odd_objects() + [("in", 0, [(1, 1)])]:
            if not isinstance(thing, Diagram):
                self.exactly(InvalidCondition, lambda: diagram & thing)
                self.exactly(InvalidCondition, lambda: diagram | thing)

    def test_other_sizes(self):
        diagram = Diagram([4, 4], all_up([0, 1]), NO_KEYS)
        for other in (Diagram([4, 5], all_up([0, 1]), NO_KEYS), Diagram([4], all_up([0]), NO_KEYS),
                      Diagram([4, 4], all_up([1, 0]), NO_KEYS), Diagram([4, 4], [(0, True), (1, False)], NO_KEYS),
                      Diagram([4, 4, 1], all_up([0, 1, 2]), NO_KEYS)):
            for call in (lambda: diagram & other, lambda: diagram | other, lambda: other & diagram,
                         lambda: parting_key(diagram, other), lambda: parting_key(other, diagram)):
                self.exactly(OtherSizes, call)

    def with_nodes(self, many):
        """A diagram of eight columns of three values with exactly so many nodes: key after key is put in."""
        order = all_up(range(8))
        found = Diagram([3] * 8, order, NO_KEYS)
        choose = Chooser(many)
        key = [0] * 8
        while found.nodes() < many:
            key[choose.one(range(8))] = choose.one(range(3))
            further = found | Diagram([3] * 8, order, condition_of(Box([set_of(3, [value]) for value in key])))
            if further.nodes() <= many:
                found = further
        self.assertEqual(found.nodes(), many)
        return found

    def test_five_hundred_nodes_together(self):
        pairs = [(self.with_nodes(250), self.with_nodes(250)), (self.with_nodes(200), self.with_nodes(300))]
        for one, other in pairs:
            self.assertEqual(one.nodes() + other.nodes(), 500)
            both, some = one & other, one | other
            self.assertEqual(both.total + some.total, one.total + other.total)
            self.assertEqual(~both, ~one | ~other)
        for many, more in ((250, 251), (251, 250), (200, 301), (300, 201)):
            one, other = self.with_nodes(many), self.with_nodes(more)
            self.exactly(TooMany, lambda: one & other)
            self.exactly(TooMany, lambda: one | other)
            self.assertEqual((~one).nodes(), many)
            self.check_parting(one, other)

    def check_parting(self, one, other):
        found = parting_key(one, other)
        self.assertEqual(parting_key(other, one), found)
        self.assertTrue((found in one) != (found in other))
        self.assertEqual(one.key_index(found), other.key_index(found))
        self.assertIs(one == other, False)

    def test_what_is_checked_first(self):
        great, back = agreeing(4, 4, "or"), Diagram([4] * 8, turned(all_up(range(8))), NO_KEYS)
        self.assertEqual(great.nodes(), 425)
        self.exactly(InvalidCondition, lambda: great & None)
        self.exactly(OtherSizes, lambda: great & back)
        self.exactly(OtherSizes, lambda: great | agreeing(3, 4, "or"))
        self.exactly(TooMany, lambda: great & great)
        self.exactly(TooMany, lambda: great | ~great)


class PartingKeys(Base):
    def test_from_all_keys(self):
        choose = Chooser(41)
        none = 0
        for at in range(700):
            sizes = choose.one(SMALL)
            order = some_order(choose, len(sizes))
            first, second = some_condition(choose, sizes, 1 + at % 5), some_condition(choose, sizes, 1 + at % 4)
            apart = [key for key in line_of(sizes, order) if holds(first, key) != holds(second, key)]
            mine, theirs = Diagram(sizes, order, first), Diagram(sizes, order, second)
            expected = apart[0] if apart else None
            self.assertEqual(parting_key(mine, theirs), expected, (sizes, order, first, second))
            self.assertEqual(parting_key(theirs, mine), expected)
            none += expected is None
        self.assertGreater(none, 20)

    def test_great_columns(self):
        choose = Chooser(43)
        for sizes, order, first in great_filters(8):
            second = some_condition(choose, sizes, 2)
            mine, theirs = Diagram(sizes, order, first), Diagram(sizes, order, second)
            unlike = (mine & ~theirs) | (theirs & ~mine)
            expected = unlike.nth_key(0) if unlike.total else None
            self.assertEqual(parting_key(mine, theirs), expected)
            self.assertEqual(parting_key(theirs, mine), expected)
            self.assertIsNone(parting_key(mine, ~~mine))

    def test_no_keys_and_all_keys(self):
        none, full = Diagram([3, 2], [(1, False), (0, True)], NO_KEYS), Diagram([3, 2], [(1, False), (0, True)],
                                                                                ("not", NO_KEYS))
        self.assertEqual((parting_key(none, full), parting_key(full, none)), ((0, 1), (0, 1)))
        self.assertIsNone(parting_key(none, none))
        self.assertIsNone(parting_key(full, full))


class BoxesAsDiagrams(Base):
    """Points 7 and 8 beside point 12."""

    def check(self, box, order, keys, indices):
        diagram = Diagram(box.sizes, order, condition_of(box))
        self.assertEqual((diagram.total, diagram.range_total), (box.total, range_count(box, order)))
        for key in keys:
            self.assertIs(key in diagram, key in box)
            self.assertEqual(diagram.range_of(key), range_of(box, order, key))
        for index in indices(diagram.range_total):
            self.assertEqual(diagram.nth_range(index), nth_range(box, order, index))

    def test_small_boxes(self):
        for sizes in ([5], [3, 3], [2, 3, 2]):
            for order in all_orders(len(sizes)):
                for box in all_boxes(sizes)[::3]:
                    self.check(box, order, line_of(sizes, order), range)

    def test_great_boxes(self):
        for box in great_boxes():
            for order in some_orders(len(box.sets)):
                diagram = Diagram(box.sizes, order, condition_of(box))
                keys = [diagram.nth_key(index) for index in some_indices(diagram.total)]
                self.check(box, order, keys, some_indices)

    def test_boxes_put_together(self):
        boxes = all_boxes([3, 2])
        for order in all_orders(2):
            for one, other in product(boxes[::5], boxes[::7]):
                both = Diagram([3, 2], order, condition_of(one)) & Diagram([3, 2], order, condition_of(other))
                self.assertEqual(both, Diagram([3, 2], order, condition_of(one & other)))

    def test_the_example(self):
        for columns in permutations(range(3)):
            order = all_up(columns)
            self.check(example(), order, line_of([10, 7, 100], order)[::11], range)


class HowTheyAreCalled(Base):
    """Point 2."""

    def test_by_name(self):
        diagram = Diagram(condition=condition_of(example()), order=all_up([0, 1, 2]), sizes=[10, 7, 100])
        self.assertEqual(diagram.nth_key(index=0), (3, 0, 20))
        self.assertEqual(diagram.key_index(key=(3, 1, 0)), 30)
        self.assertEqual(diagram.nth_range(index=1), ((3, 1, 20), (3, 1, 49)))
        self.assertEqual(diagram.range_of(key=(3, 1, 20)), 1)
        self.assertEqual(diagram.next_key(key=(3, 1, 0)), (3, 1, 20))
        self.assertIsNone(parting_key(other=diagram, one=diagram))
        self.exactly(InvalidNumber, diagram.nth_key, index=120)
        self.exactly(InvalidKey, diagram.next_key, key=None)

    def test_lists_that_are_passed_stay_and_may_be_changed_later(self):
        sizes, order, stretches = [10, 7], [(1, False), (0, True)], [(1, 2), (5, 5)]
        condition = ("or", ("in", 0, stretches), ("not", ("in", 1, [(0, 3)])))
        diagram = Diagram(sizes, order, condition)
        keys = [diagram.nth_key(index) for index in range(diagram.total)]
        self.assertEqual((sizes, order, stretches), ([10, 7], [(1, False), (0, True)], [(1, 2), (5, 5)]))
        sizes.append(3)
        sizes[0] = 1
        order.reverse()
        stretches.clear()
        condition[2][1][2].append((6, 6))
        self.assertEqual((diagram.sizes, diagram.order), ([10, 7], [(1, False), (0, True)]))
        self.assertEqual([diagram.nth_key(index) for index in range(diagram.total)], keys)

    def test_new_lists_each_time(self):
        diagram = Diagram([10, 7], [(1, False), (0, True)], NO_KEYS)
        for found in (diagram.sizes, diagram.order, (~diagram).sizes, (~diagram).order, (diagram | diagram).order):
            found.clear()
        self.assertEqual((diagram.sizes, diagram.order), ([10, 7], [(1, False), (0, True)]))
        self.assertIsNot(diagram.sizes, diagram.sizes)
        self.assertIsNot(diagram.order, diagram.order)

    def test_attributes_are_not_assigned_to(self):
        diagram = Diagram([10, 7], [(1, False), (0, True)], NO_KEYS)
        for name in ("sizes", "order", "total", "range_total"):
            self.assertRaises(AttributeError, setattr, diagram, name, 3)

    def test_where_they_are_defined(self):
        self.assertEqual((Diagram.__module__, parting_key.__module__), (diagrams.__name__, diagrams.__name__))
        for name in ("sizes", "order", "total", "range_total", "__contains__", "__eq__", "__and__", "__or__",
                     "__invert__", "nth_key", "key_index", "nth_range", "range_of", "next_key", "nodes"):
            self.assertIn(name, vars(Diagram))


if __name__ == "__main__":
    unittest.main()
