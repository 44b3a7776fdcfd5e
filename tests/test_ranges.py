import unittest
from itertools import permutations, product

from brute import (HUGE, Base, Chooser, all_boxes, all_orders, all_up, example, great_boxes, key_at, line_of,
                   odd_objects, position, ranges_on, set_of, some_orders, spread)
from scanranges import ranges
from scanranges.boxes import Box
from scanranges.errors import InvalidKey, InvalidNumber, InvalidOrder
from scanranges.ranges import nth_range, range_count, range_of, range_steps
from scanranges.valuesets import ValueSet


class KeyByKey(Base):
    """Points 3 and 8: against the ranges that are found key by key along the line."""

    def check_columns(self, sizes, boxes):
        orders = all_orders(len(sizes))
        lines = [line_of(sizes, order) for order in orders]
        for box in boxes:
            for order, line in zip(orders, lines):
                self.check(box, order, line)

    def check(self, box, order, line):
        found = ranges_on(line, box)
        told = (box.sets, order)
        self.assertEqual(range_count(box, order), len(found), told)
        self.assertEqual([nth_range(box, order, index) for index in range(len(found))],
                         [(keys[0], keys[-1]) for keys in found], told)
        index_of = {key: index for index, keys in enumerate(found) for key in keys}
        self.assertEqual([range_of(box, order, key) for key in line], [index_of.get(key) for key in line], told)
        for index in (-1, len(found)):
            self.exactly(InvalidNumber, nth_range, box, order, index)

    def test_all_boxes_of_small_columns(self):
        for sizes in ([1], [2], [3], [4], [7], [1, 1], [1, 3], [3, 1], [2, 2], [4, 3], [2, 5], [2, 2, 2], [1, 2, 1]):
            self.check_columns(sizes, all_boxes(sizes))

    def test_three_columns(self):
        self.check_columns([3, 2, 2], all_boxes([3, 2, 2]))
        self.check_columns([1, 3, 2], all_boxes([1, 3, 2]))

    def test_sets_that_wrap_beside_others(self):
        wraps, full = ValueSet(4, [(0, 1), (3, 3)]), ValueSet(3, [(0, 2)])
        ends, one = ValueSet(3, [(0, 0), (2, 2)]), ValueSet(3, [(1, 1)])
        self.check_columns([4, 3, 3], [Box([wraps, a, b]) for a, b in product((full, ends, one), repeat=2)])
        wide = ValueSet(9, [(0, 1), (3, 5), (7, 8)])
        self.check_columns([9, 3, 1], [Box([wide, a, ValueSet(1, [(0, 0)])]) for a in (full, ends, one)])

    def test_some_boxes_of_four_columns(self):
        boxes = all_boxes([2, 2, 1, 3])
        self.check_columns([2, 2, 1, 3], boxes[-1::-23])

    def test_answers_are_integers_and_tuples_of_integers(self):
        box = Box([set_of(3, [0, 2]), set_of(2, [0, 1])])
        order = [(0, True), (1, False)]
        self.assertIs(type(range_count(box, order)), int)
        self.assertIs(type(range_of(box, order, (0, 1))), int)
        found = nth_range(box, order, 0)
        self.assertIs(type(found), tuple)
        for key in found:
            self.assertIs(type(key), tuple)
            self.assertEqual([type(value) for value in key], [int, int])


class TheExample(Base):
    def test_in_its_order(self):
        box, order = example(), all_up([0, 1, 2])
        self.assertEqual(range_steps(box, order), [(1, 0), (4, 0), (4, 0)])
        self.assertEqual(range_count(box, order), 4)
        self.assertEqual([nth_range(box, order, index) for index in range(4)],
                         [((3, value, 20), (3, value, 49)) for value in (0, 1, 5, 6)])
        self.assertEqual(range_of(box, order, (3, 5, 33)), 2)
        self.assertIsNone(range_of(box, order, (3, 4, 33)))

    def test_down(self):
        box, order = example(), [(0, False), (1, False), (2, False)]
        self.assertEqual([nth_range(box, order, index) for index in range(4)],
                         [((3, value, 49), (3, value, 20)) for value in (6, 5, 1, 0)])
        self.assertEqual(range_of(box, order, (3, 5, 33)), 1)

    def test_in_each_order(self):
        counts = {columns: range_count(example(), all_up(columns)) for columns in permutations(range(3))}
        self.assertEqual(counts, {(0, 1, 2): 4, (0, 2, 1): 31, (1, 0, 2): 4, (1, 2, 0): 120, (2, 0, 1): 60,
                                  (2, 1, 0): 120})
        for order in all_orders(3):
            self.assertEqual(range_count(example(), order), len(ranges_on(line_of([10, 7, 100], order), example())))


class Steps(Base):
    """Point 8: the tuples (R, e) of R1."""

    def test_the_parts_of_small_boxes(self):
        for box in all_boxes([3, 1, 2]):
            for columns in permutations(range(3)):
                self.check_parts(box, columns)

    def check_parts(self, box, columns):
        # The last columns of an order alone are a box of their own, whose ranges can be found key by key.
        expected = []
        for many in range(1, len(columns) + 1) if box.total else ():
            part = Box([box.sets[column] for column in columns[-many:]])
            order = all_up(range(many))
            line = line_of(part.sizes, order)
            joined = 1 if line[0] in part and line[-1] in part else 0
            expected.append((len(ranges_on(line, part)), joined))
        self.assertEqual(range_steps(box, all_up(columns)), expected, (box.sets, columns))

    def test_great_boxes(self):
        for box in great_boxes():
            for order in some_orders(len(box.sets)):
                expected = []
                many, joined = 1, 1
                for column, _ in reversed(order):
                    one = box.sets[column]
                    total, stretches = one.total, len(one.stretches)
                    many = total * many - (total - stretches) * joined
                    joined = joined if one.wraps else 0
                    expected.append((many, joined))
                self.assertEqual(range_steps(box, order), expected)
                self.assertEqual(range_count(box, order), expected[-1][0])

    def test_known_great_ones(self):
        ends = ValueSet(HUGE, [(0, 0), (HUGE - 1, HUGE - 1)])
        self.assertEqual(range_steps(Box([ends] * 8), all_up(range(8))), [(2 ** at, 1) for at in range(1, 9)])
        full, one = ValueSet(HUGE, [(0, HUGE - 1)]), ValueSet(HUGE, [(5, 5)])
        self.assertEqual(range_steps(Box([full] * 8), all_up(range(8))), [(1, 1)] * 8)
        self.assertEqual(range_steps(Box([full] * 7 + [one]), all_up(range(8))),
                         [(HUGE ** at, 0) for at in range(8)])
        self.assertEqual(range_steps(Box([one] + [full] * 7), all_up(range(8))), [(1, 1)] * 7 + [(1, 0)])

    def test_directions_change_nothing(self):
        box = Box([ValueSet(9, [(0, 1), (8, 8)]), ValueSet(5, [(3, 4)]), ValueSet(7, [(0, 0)])])
        for columns in permutations(range(3)):
            expected = range_steps(box, all_up(columns))
            for ups in product((True, False), repeat=3):
                self.assertEqual(range_steps(box, list(zip(columns, ups))), expected)
        for box in great_boxes():
            down = [(column, False) for column in range(len(box.sets))]
            self.assertEqual(range_steps(box, down), range_steps(box, all_up(range(len(box.sets)))))

    def test_integers_not_booleans(self):
        for box in great_boxes()[:8] + [example()]:
            for many, joined in range_steps(box, all_up(range(len(box.sets)))):
                self.assertEqual((type(many), type(joined)), (int, int))

    def test_empty_boxes(self):
        none, full = ValueSet(HUGE, []), ValueSet(HUGE, [(0, HUGE - 1)])
        for sets in ([none], [none, full], [full, none], [full] * 7 + [none], [none] * 8, [ValueSet(1, [])]):
            for order in (all_up(range(len(sets))), [(column, False) for column in reversed(range(len(sets)))]):
                self.assertEqual(range_steps(Box(sets), order), [])
                self.assertEqual(range_count(Box(sets), order), 0)

    def test_a_new_list_each_time(self):
        none = Box([ValueSet(3, [])])
        for box in (example(), none):
            order = all_up(range(len(box.sets)))
            first = range_steps(box, order)
            kept = list(first)
            self.assertIs(type(first), list)
            self.assertTrue(all([type(step) is tuple for step in first]))
            self.assertIsNot(range_steps(box, order), first)
            first.append(None)
            first[0] = None
            self.assertEqual(range_steps(box, order), kept)
            self.assertEqual(range_count(box, order), kept[-1][0] if kept else 0)


class GreatBoxes(Base):
    """nth_range and range_of where no test can go from key to key."""

    def some_indices(self, many):
        found = {0, 1, 2, many // 3, many // 2, many // 2 + 1, many * 5 // 7, many - 3, many - 2, many - 1}
        return sorted([index for index in found if 0 <= index < many])

    def test_first_last_and_some_between(self):
        for box in great_boxes():
            for order in some_orders(len(box.sets)):
                many = range_count(box, order)
                for index in self.some_indices(many):
                    self.check_range(box, order, index)

    def check_range(self, box, order, index):
        first, last = nth_range(box, order, index)
        told = (box.sets, order, index, first, last)
        sizes = box.sizes
        self.assertTrue(first in box and last in box, told)
        self.assertEqual((range_of(box, order, first), range_of(box, order, last)), (index, index), told)
        start, end = position(sizes, order, first), position(sizes, order, last)
        self.assertLessEqual(start, end, told)
        if start > 0:
            self.check_outside(box, order, key_at(sizes, order, start - 1))
        if key_at(sizes, order, end) != tuple([size - 1 if up else 0 for size, up in self.directions(sizes, order)]):
            self.check_outside(box, order, key_at(sizes, order, end + 1))
        for place in {start + (end - start) // 2, start + (end - start) // 7, min(start + 1, end), max(end - 1, start)}:
            self.assertEqual(range_of(box, order, key_at(sizes, order, place)), index, told)

    def directions(self, sizes, order):
        ups = dict(order)
        return [(sizes[column], ups[column]) for column in range(len(sizes))]

    def check_outside(self, box, order, key):
        self.assertFalse(key in box, (box.sets, order, key))
        self.assertIsNone(range_of(box, order, key))

    def test_the_first_key_and_the_last_one(self):
        for box in great_boxes():
            for order in some_orders(len(box.sets)):
                ups = dict(order)
                ends = [(one.nth(0), one.nth(one.total - 1)) for one in box.sets]
                least = tuple([low if ups[column] else high for column, (low, high) in enumerate(ends)])
                greatest = tuple([high if ups[column] else low for column, (low, high) in enumerate(ends)])
                many = range_count(box, order)
                self.assertEqual(nth_range(box, order, 0)[0], least)
                self.assertEqual(nth_range(box, order, many - 1)[1], greatest)
                self.assertEqual(range_of(box, order, least), 0)
                self.assertEqual(range_of(box, order, greatest), many - 1)

    def test_ranges_that_follow_each_other(self):
        for box in great_boxes():
            for order in some_orders(len(box.sets)):
                many = range_count(box, order)
                for index in self.some_indices(many - 1):
                    end = position(box.sizes, order, nth_range(box, order, index)[1])
                    start = position(box.sizes, order, nth_range(box, order, index + 1)[0])
                    self.assertLess(end + 1, start)

    def test_keys_of_the_box(self):
        choose = Chooser(3)
        for box in great_boxes():
            for order in some_orders(len(box.sets)):
                for _ in range(5):
                    places = (0, 1, 10 ** 9 + 7, 10 ** 20, 10 ** 20 + 1, 10 ** 27)
                    key = tuple([one.nth(choose.one(places) % one.total) for one in box.sets])
                    index = range_of(box, order, key)
                    first, last = nth_range(box, order, index)
                    place = position(box.sizes, order, key)
                    self.assertLessEqual(position(box.sizes, order, first), place)
                    self.assertLessEqual(place, position(box.sizes, order, last))

    def test_lengths_make_up_the_total(self):
        week, some = ValueSet(7, [(0, 1), (5, 6)]), ValueSet(30, spread(12, 1))
        ends, full = ValueSet(40, [(0, 10), (12, 12), (39, 39)]), ValueSet(5, [(0, 4)])
        rows = ([week, some, ends, full], [full, week, ends, week], [ends, full, some], [some, full], [ends, ends])
        for sets in rows:
            box = Box(sets)
            for order in some_orders(len(sets)):
                total = 0
                for index in range(range_count(box, order)):
                    first, last = nth_range(box, order, index)
                    total += position(box.sizes, order, last) - position(box.sizes, order, first) + 1
                self.assertEqual(total, box.total)

    def test_a_known_one(self):
        one, full = ValueSet(HUGE, [(5, 5)]), ValueSet(HUGE, [(0, HUGE - 1)])
        box = Box([full, one, full])
        order = [(0, True), (1, True), (2, False)]
        self.assertEqual(nth_range(box, order, 10 ** 29), ((10 ** 29, 5, HUGE - 1), (10 ** 29, 5, 0)))
        self.assertEqual(range_of(box, order, (10 ** 29, 5, 123)), 10 ** 29)
        order = [(0, False), (1, True), (2, False)]
        self.assertEqual(nth_range(box, order, 0), ((HUGE - 1, 5, HUGE - 1), (HUGE - 1, 5, 0)))
        self.assertEqual(nth_range(Box([full] * 8), all_up(range(8)), 0), ((0,) * 8, (HUGE - 1,) * 8))

    def test_none_for_keys_beside_the_box(self):
        box = example()
        for order in all_orders(3):
            for key in ((2, 0, 20), (4, 0, 20), (3, 2, 20), (3, 4, 49), (3, 0, 19), (3, 0, 50), (0, 0, 0), (9, 6, 99)):
                self.assertIs(range_of(box, order, key), None)


class EmptyBoxes(Base):
    def test_no_ranges(self):
        none, full = ValueSet(2, []), ValueSet(3, [(0, 2)])
        for sets in ([none, full], [full, none], [none, none], [none], [ValueSet(1, []), full]):
            box = Box(sets)
            for order in all_orders(len(sets)):
                self.assertEqual((range_count(box, order), range_steps(box, order)), (0, []))
                for index in (0, 1, -1, 10 ** 59):
                    self.exactly(InvalidNumber, nth_range, box, order, index)
                for key in line_of(box.sizes, order):
                    self.assertIs(range_of(box, order, key), None)

    def test_arguments_are_checked(self):
        box = Box([ValueSet(2, []), ValueSet(3, [(0, 2)])])
        order = all_up([1, 0])
        for key in ((2, 0), (0, 3), (-1, 0), (0,), (0, 0, 0), [0, 0], (False, 0), None):
            self.exactly(InvalidKey, range_of, box, order, key)
        for bad in ([], [(0, True)], [(0, True), (0, True)], ((0, True), (1, True)), None):
            self.exactly(InvalidOrder, range_count, box, bad)
            self.exactly(InvalidOrder, range_steps, box, bad)
            self.exactly(InvalidOrder, nth_range, box, bad, 0)
            self.exactly(InvalidOrder, range_of, box, bad, (0, 0))


class NoOrders(Base):
    """InvalidOrder for each object that is no order of the box's columns."""

    BAD = [
        [], [(0, True)], [(0, True), (1, True)], all_up([0, 1, 2, 3]), all_up([0, 1, 2, 2]), all_up([0, 1, 2]) * 2,
        all_up([0, 1, 1]), all_up([0, 0, 0]), all_up([2, 2, 1]), all_up([0, 1, 3]), all_up([1, 2, 3]),
        all_up([0, 1, -1]), all_up([0, 1, 8]), all_up([0, 1, 10 ** 59]), all_up([0, 1, -10 ** 59]),
        tuple(all_up([0, 1, 2])), [[0, True], [1, True], [2, True]], [(0, True), [1, True], (2, True)],
        [(0, True), (True, True), (2, True)], [(False, True), (1, True), (2, True)],
        [(0, 1), (1, 1), (2, 1)], [(0, True), (1, True), (2, 0)], [(0, True), (1, 1), (2, True)],
        [(0, None), (1, True), (2, True)], [(0, "up"), (1, True), (2, True)], [(0, True), (1, True), (2,)],
        [(0, True, True), (1, True), (2, True)], [(0, True), (1, True), ()], [0, 1, 2], [True, True, True],
        [(0, True), (1, True), None], [(0, True), (1, True), 2], [("0", True), (1, True), (2, True)],
        [(None, True), (1, True), (2, True)], [((0,), True), (1, True), (2, True)], [(True, 0), (True, 1), (True, 2)],
        [([0], True), (1, True), (2, True)], [(0, [True]), (1, True), (2, True)], [all_up([0, 1, 2])],
        {0: True, 1: True, 2: True}, {"a": 1}, "+0 +1 +2", None, 0, 3, True, False, (), "", example(),
        ValueSet(3, []), [example()] * 3, [ValueSet(3, [])] * 3,
    ]

    def check_all(self, box):
        for bad in self.BAD + odd_objects():
            with self.subTest(order=bad):
                self.exactly(InvalidOrder, range_count, box, bad)
                self.exactly(InvalidOrder, range_steps, box, bad)
                self.exactly(InvalidOrder, nth_range, box, bad, 0)
                self.exactly(InvalidOrder, range_of, box, bad, (3, 0, 20))

    def test_a_box_with_keys(self):
        self.check_all(example())

    def test_an_empty_box(self):
        self.check_all(Box([ValueSet(10, []), ValueSet(7, [(0, 1)]), ValueSet(100, [(20, 49)])]))

    def test_before_a_wrong_index_or_key(self):
        box = example()
        for index in (-1, 4, 10 ** 59):
            self.exactly(InvalidOrder, nth_range, box, all_up([0, 1]), index)
        for key in (None, (), (3, 0), (10, 0, 0), [3, 0, 20]):
            self.exactly(InvalidOrder, range_of, box, all_up([0, 1, 1]), key)

    def test_one_column(self):
        box = Box([ValueSet(2, [(0, 0)])])
        for good in ([(0, True)], [(0, False)]):
            self.assertEqual(range_count(box, good), 1)
        for bad in ([(False, True)], [(True, True)], [(1, True)], [(-1, True)], [(0, 0)], [(0, 1)], [[0, True]], [],
                    ((0, True),), (0, True), [0, True], [(0, True), (0, True)], [(0, True), (1, True)]):
            self.exactly(InvalidOrder, range_count, box, bad)

    def test_an_order_of_more_columns(self):
        box = Box([ValueSet(2, [(0, 0)])] * 8)
        self.assertEqual(range_count(box, all_up(range(8))), 1)
        for bad in (all_up(range(7)), all_up(range(9)), all_up(range(1, 9)), all_up([0] + list(range(7)))):
            self.exactly(InvalidOrder, range_count, box, bad)


class NoIndices(Base):
    def test_out_of_range(self):
        box = example()
        for order in all_orders(3):
            many = range_count(box, order)
            for index in (-1, -many, -many - 1, many, many + 1, 10 ** 59, -10 ** 59):
                self.exactly(InvalidNumber, nth_range, box, order, index)

    def test_great_boxes(self):
        for box in great_boxes():
            order = all_up(range(len(box.sets)))
            many = range_count(box, order)
            for index in (-1, many, many + 1, many * 10 ** 9, -many, -many * 10 ** 9):
                self.exactly(InvalidNumber, nth_range, box, order, index)

    def test_booleans(self):
        for index in (True, False):
            self.exactly(InvalidNumber, nth_range, example(), all_up([0, 1, 2]), index)


class NoKeys(Base):
    def test_what_is_no_key(self):
        box, order = example(), all_up([0, 1, 2])
        bad = [
            (), (3,), (3, 0), (3, 0, 20, 0), (3, 0, 20) * 2, (-1, 0, 20), (10, 0, 20), (3, -1, 20), (3, 7, 20),
            (3, 0, -1), (3, 0, 100), (3, 0, 10 ** 59), (3, -10 ** 59, 20), (True, 0, 20), (3, False, 20),
            (3, 0, True), [3, 0, 20], [(3, 0, 20)], ((3, 0, 20),), (3, 0, "20"), (3, 0, None), (3, (0,), 20),
            (3, [0], 20), ("3", "0", "20"), {3: 0}, "3 0 20", (3, 0, box), box, None, True, 0, 3,
        ]
        for key in bad + odd_objects():
            with self.subTest(key=key):
                self.exactly(InvalidKey, range_of, box, order, key)

    def test_each_key_of_the_columns_is_one(self):
        box = Box([ValueSet(3, [(1, 1)]), ValueSet(2, [(0, 0)])])
        for key in product(range(-1, 4), range(-1, 3)):
            if 0 <= key[0] < 3 and 0 <= key[1] < 2:
                self.assertEqual(range_of(box, all_up([0, 1]), key), 0 if key == (1, 0) else None)
            else:
                self.exactly(InvalidKey, range_of, box, all_up([0, 1]), key)

    def test_the_last_value_of_a_great_column(self):
        box = Box([ValueSet(HUGE, [(3, 4)])])
        self.assertIsNone(range_of(box, [(0, False)], (HUGE - 1,)))
        self.exactly(InvalidKey, range_of, box, [(0, False)], (HUGE,))


class HowTheyAreCalled(Base):
    """Point 2."""

    def test_by_name(self):
        box, order = example(), all_up([0, 1, 2])
        self.assertEqual(range_count(box=box, order=order), 4)
        self.assertEqual(range_steps(order=order, box=box), [(1, 0), (4, 0), (4, 0)])
        self.assertEqual(nth_range(box=box, order=order, index=1), ((3, 1, 20), (3, 1, 49)))
        self.assertEqual(range_of(key=(3, 1, 22), box=box, order=order), 1)
        self.exactly(InvalidOrder, range_count, box=box, order=None)
        self.exactly(InvalidNumber, nth_range, box=box, order=order, index=4)
        self.exactly(InvalidKey, range_of, box=box, order=order, key=())

    def test_nothing_is_modified(self):
        box, order = example(), [(2, False), (0, True), (1, False)]
        sets = box.sets
        for _ in range(2):
            range_count(box, order)
            range_steps(box, order)
            nth_range(box, order, 1)
            range_of(box, order, (3, 0, 20))
            self.exactly(InvalidNumber, nth_range, box, order, -1)
            self.assertEqual(order, [(2, False), (0, True), (1, False)])
            self.assertEqual((box.sets, box.sizes), (sets, [10, 7, 100]))

    def test_a_list_that_is_changed_later(self):
        box, order = example(), all_up([0, 1, 2])
        steps = range_steps(box, order)
        order.reverse()
        self.assertEqual(steps, [(1, 0), (4, 0), (4, 0)])
        self.assertEqual(range_count(box, order), 120)

    def test_they_are_defined_here(self):
        for one in (range_count, range_steps, nth_range, range_of):
            self.assertEqual(one.__module__, ranges.__name__)


if __name__ == "__main__":
    unittest.main()
