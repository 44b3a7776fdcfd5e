import unittest
from itertools import product

from brute import (HUGE, Base, all_boxes, all_orders, all_up, counted, example, gaps_on, great_boxes, line_of,
                   odd_objects, position, some_orders, spread)
from scanranges import gaps
from scanranges.boxes import Box
from scanranges.errors import InvalidNumber, InvalidOrder
from scanranges.gaps import gap_lengths, merged_cost, read_in_vain
from scanranges.ranges import nth_range, range_count
from scanranges.valuesets import ValueSet

SIXTY = 10 ** 60 - 1


def ways_on(lengths):
    """For each choice of gaps that are read over: how many runs there are, and how many positions are read in vain."""
    for chosen in product((False, True), repeat=len(lengths)):
        yield 1 + chosen.count(False), sum([length for length, read in zip(lengths, chosen) if read])


def written_out(found):
    return [length for length, many in found for _ in range(many)]


class KeyByKey(Base):
    """Point 11: against all positions of the line."""

    def check_columns(self, sizes, boxes):
        for order in all_orders(len(sizes)):
            line = line_of(sizes, order)
            for box in boxes:
                self.assertEqual(gap_lengths(box, order), counted(gaps_on(line, box)), (box.sets, order))

    def test_all_boxes_of_small_columns(self):
        for sizes in ([1], [2], [5], [8], [1, 1], [1, 3], [3, 1], [2, 2], [4, 3], [2, 5], [2, 2, 2], [1, 2, 1]):
            self.check_columns(sizes, all_boxes(sizes))

    def test_three_columns(self):
        self.check_columns([3, 2, 2], all_boxes([3, 2, 2]))
        self.check_columns([3, 3, 3], all_boxes([3, 3, 3])[7::11])

    def test_some_boxes_of_four_columns(self):
        self.check_columns([2, 3, 1, 2], all_boxes([2, 3, 1, 2])[-1::-17])

    def test_sets_of_many_stretches(self):
        sizes = [6, 5]
        wide = [ValueSet(6, [(0, 0), (2, 3), (5, 5)]), ValueSet(6, [(1, 1), (3, 3), (5, 5)]), ValueSet(6, [(0, 5)])]
        narrow = [ValueSet(5, spread(3)), ValueSet(5, [(1, 1), (4, 4)]), ValueSet(5, [(0, 0)]), ValueSet(5, [(0, 4)])]
        self.check_columns(sizes, [Box([one, other]) for one, other in product(wide, narrow)])
        self.check_columns([30, 2], [Box([ValueSet(30, spread(12, 3)), ValueSet(2, [(0, 0)])]),
                                     Box([ValueSet(30, spread(12, 3)), ValueSet(2, [(0, 1)])])])

    def test_every_choice_of_gaps(self):
        checked = 0
        for sizes in ([7], [3, 3], [2, 2, 2], [1, 4, 2]):
            for order in all_orders(len(sizes))[::3]:
                line = line_of(sizes, order)
                for box in all_boxes(sizes)[::3]:
                    self.check_ways(box, order, gaps_on(line, box))
                    checked += 1
        self.assertGreater(checked, 500)

    def check_ways(self, box, order, lengths):
        told = (box.sets, order)
        ways = list(ways_on(lengths)) if box.total else [(0, 0)]
        for most in range(1, len(lengths) + 4):
            fewest = min([read for runs, read in ways if runs <= most])
            self.assertEqual(read_in_vain(box, order, most), fewest, told)
        for price in (0, 1, 2, 3, 5, 9, 100):
            least = min([runs * price + read for runs, read in ways])
            self.assertEqual(merged_cost(box, order, price), least, told)


class GreatBoxes(Base):
    def test_how_many_and_how_long_together(self):
        for box in great_boxes():
            for order in some_orders(len(box.sets)):
                found = gap_lengths(box, order)
                many = range_count(box, order)
                first, last = nth_range(box, order, 0)[0], nth_range(box, order, many - 1)[1]
                between = position(box.sizes, order, last) - position(box.sizes, order, first) + 1 - box.total
                self.assertEqual(sum([count for _, count in found]), many - 1)
                self.assertEqual(sum([length * count for length, count in found]), between)
                self.assertEqual([length for length, _ in found], sorted({length for length, _ in found}))
                self.assertTrue(all([length > 0 and count > 0 for length, count in found]))

    def test_some_of_them(self):
        for box in great_boxes():
            for order in some_orders(len(box.sets)):
                lengths = dict(gap_lengths(box, order))
                many = range_count(box, order)
                for index in {0, 1, many // 2, many // 3, many - 3, many - 2}:
                    if 0 <= index < many - 1:
                        end = position(box.sizes, order, nth_range(box, order, index)[1])
                        start = position(box.sizes, order, nth_range(box, order, index + 1)[0])
                        self.assertIn(start - end - 1, lengths)

    def test_directions_change_nothing(self):
        for box in great_boxes() + [example()]:
            for order in some_orders(len(box.sets)):
                up = [(column, True) for column, _ in order]
                self.assertEqual(gap_lengths(box, order), gap_lengths(box, up))

    def test_known_ones(self):
        full, one = ValueSet(HUGE, [(0, HUGE - 1)]), ValueSet(HUGE, [(5, 5)])
        many = ValueSet(HUGE, spread(12, 5, 10 ** 28))
        self.assertEqual(gap_lengths(Box([many]), all_up([0])), [(10 ** 28 - 1, 11)])
        self.assertEqual(gap_lengths(Box([full] * 7 + [one]), all_up(range(8))), [(HUGE - 1, HUGE ** 7 - 1)])
        self.assertEqual(gap_lengths(Box([one] + [full] * 7), all_up(range(8))), [])
        self.assertEqual(gap_lengths(Box([full] * 8), all_up(range(8))), [])
        ends = ValueSet(HUGE, [(0, 0), (HUGE - 1, HUGE - 1)])
        self.assertEqual(gap_lengths(Box([ends] * 8), all_up(range(8))),
                         [(HUGE ** at * (HUGE - 2), 2 ** (7 - at)) for at in range(8)])

    def test_a_full_column_before_all_others(self):
        full, one = ValueSet(10 ** 20, [(0, 10 ** 20 - 1)]), ValueSet(100, [(20, 49)])
        box = Box([full, one])
        self.assertEqual(gap_lengths(box, all_up([0, 1])), [(70, 10 ** 20 - 1)])
        self.assertEqual(read_in_vain(box, all_up([0, 1]), 1), 70 * (10 ** 20 - 1))
        self.assertEqual(read_in_vain(box, all_up([0, 1]), 10 ** 20), 0)
        self.assertEqual(read_in_vain(box, all_up([0, 1]), 10 ** 20 - 1), 70)
        self.assertEqual(merged_cost(box, all_up([0, 1]), 69), 69 * 10 ** 20)
        self.assertEqual(merged_cost(box, all_up([0, 1]), 71), 71 + 70 * (10 ** 20 - 1))
        self.assertEqual(gap_lengths(box, all_up([1, 0])), [])

    def test_reading_by_the_lengths(self):
        for box in great_boxes():
            for order in some_orders(len(box.sets)):
                found = gap_lengths(box, order)
                many = range_count(box, order)
                total = sum([length * count for length, count in found])
                self.assertEqual(read_in_vain(box, order, 1), total)
                self.assertEqual(read_in_vain(box, order, many), 0)
                self.assertEqual(read_in_vain(box, order, many + 1), 0)
                self.assertEqual(read_in_vain(box, order, max(SIXTY, many)), 0)
                if found:
                    self.assertEqual(read_in_vain(box, order, 2), total - found[-1][0])
                    self.assertEqual(read_in_vain(box, order, many - 1), found[0][0])
                self.assertEqual(merged_cost(box, order, 0), 0)
                self.assertEqual(merged_cost(box, order, 1), many)
                self.assertEqual(merged_cost(box, order, SIXTY),
                                 SIXTY + sum([min(length, SIXTY) * count for length, count in found]))


class TheExample(Base):
    def test_in_its_order(self):
        box, order = example(), all_up([0, 1, 2])
        self.assertEqual(gap_lengths(box, order), [(70, 2), (370, 1)])
        self.assertEqual([read_in_vain(box, order, most) for most in (1, 2, 3, 4, 5, SIXTY)], [510, 140, 70, 0, 0, 0])
        self.assertEqual(merged_cost(box, order, 100), 340)
        self.assertEqual([merged_cost(box, order, price) for price in (0, 1, 70, 71, 370, 371)],
                         [0, 4, 280, 282, 880, 881])
        self.assertEqual(merged_cost(box, order, SIXTY), SIXTY + 510)

    def test_in_each_order(self):
        for order in all_orders(3):
            lengths = gaps_on(line_of([10, 7, 100], order), example())
            self.assertEqual(gap_lengths(example(), order), counted(lengths))
            self.assertEqual(written_out(gap_lengths(example(), order)), sorted(lengths))
            for most in (1, 2, 3, 10, 60, 119, 120, 121):
                self.assertEqual(read_in_vain(example(), order, most),
                                 sum(sorted(lengths)[:max(0, len(lengths) - most + 1)]))
            for price in (0, 1, 5, 9, 10, 690, 10 ** 5):
                self.assertEqual(merged_cost(example(), order, price),
                                 price + sum([min(price, length) for length in lengths]))


class EmptyBoxes(Base):
    def test_nothing_to_read(self):
        none, full = ValueSet(2, []), ValueSet(3, [(0, 2)])
        great, great_none = ValueSet(HUGE, [(3, 9)]), ValueSet(HUGE, [])
        for sets in ([none], [none, full], [full, none], [none, none], [great, great_none], [great_none] * 8):
            for order in (all_up(range(len(sets))), [(column, False) for column in reversed(range(len(sets)))]):
                box = Box(sets)
                self.assertEqual(gap_lengths(box, order), [])
                for number in (1, 2, SIXTY):
                    self.assertEqual(read_in_vain(box, order, number), 0)
                    self.assertEqual(merged_cost(box, order, number), 0)
                self.assertEqual(merged_cost(box, order, 0), 0)

    def test_arguments_are_checked(self):
        box = Box([ValueSet(2, []), ValueSet(3, [(0, 2)])])
        for bad in odd_objects() + [[(0, True)], ((0, True), (1, True))]:
            self.exactly(InvalidOrder, gap_lengths, box, bad)
            self.exactly(InvalidOrder, read_in_vain, box, bad, 0)
            self.exactly(InvalidOrder, merged_cost, box, bad, -1)
        self.exactly(InvalidNumber, read_in_vain, box, all_up([0, 1]), 0)
        self.exactly(InvalidNumber, merged_cost, box, all_up([0, 1]), -1)


class WrongArguments(Base):
    def test_no_orders(self):
        rows = [
            all_up([0, 1]), all_up([0, 1, 1]), all_up([0, 1, 2, 3]), all_up([1, 2, 3]), tuple(all_up([0, 1, 2])),
            [[0, True], [1, True], [2, True]], [(0, 1), (1, True), (2, True)], [(False, True), (1, True), (2, True)],
        ]
        for bad in rows + odd_objects():
            with self.subTest(order=bad):
                self.exactly(InvalidOrder, gap_lengths, example(), bad)
                self.exactly(InvalidOrder, read_in_vain, example(), bad, 1)
                self.exactly(InvalidOrder, merged_cost, example(), bad, 1)

    def test_the_order_comes_first(self):
        for number in (0, -1, -SIXTY):
            self.exactly(InvalidOrder, read_in_vain, example(), all_up([0, 1]), number)
            self.exactly(InvalidOrder, merged_cost, example(), [], number)

    def test_numbers(self):
        order = all_up([2, 0, 1])
        for most in (0, -1, -2, -SIXTY, True, False):
            self.exactly(InvalidNumber, read_in_vain, example(), order, most)
        for price in (-1, -2, -SIXTY, True, False):
            self.exactly(InvalidNumber, merged_cost, example(), order, price)
        self.assertGreater(read_in_vain(example(), order, 1), 0)
        self.assertEqual(merged_cost(example(), order, 0), 0)


class HowTheyAreCalled(Base):
    """Point 2."""

    def test_by_name(self):
        box, order = example(), all_up([0, 1, 2])
        self.assertEqual(gap_lengths(box=box, order=order), [(70, 2), (370, 1)])
        self.assertEqual(read_in_vain(most=2, order=order, box=box), 140)
        self.assertEqual(merged_cost(price=100, box=box, order=order), 340)
        self.exactly(InvalidNumber, read_in_vain, box=box, order=order, most=0)
        self.exactly(InvalidNumber, merged_cost, box=box, order=order, price=-1)
        self.exactly(InvalidOrder, gap_lengths, box=box, order=None)

    def test_a_new_list_each_time(self):
        box, order = example(), all_up([0, 1, 2])
        first = gap_lengths(box, order)
        self.assertIs(type(first), list)
        self.assertTrue(all([type(one) is tuple and [type(x) for x in one] == [int, int] for one in first]))
        self.assertIsNot(gap_lengths(box, order), first)
        first.clear()
        self.assertEqual(gap_lengths(box, order), [(70, 2), (370, 1)])

    def test_nothing_is_modified(self):
        box, order = example(), [(2, False), (0, True), (1, False)]
        sets = box.sets
        for _ in range(2):
            gap_lengths(box, order)
            read_in_vain(box, order, 2)
            merged_cost(box, order, 3)
            self.assertEqual(order, [(2, False), (0, True), (1, False)])
            self.assertEqual(box.sets, sets)

    def test_they_are_defined_here(self):
        for one in (gap_lengths, read_in_vain, merged_cost):
            self.assertEqual(one.__module__, gaps.__name__)


if __name__ == "__main__":
    unittest.main()
