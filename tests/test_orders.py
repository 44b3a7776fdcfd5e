import unittest
from itertools import permutations, product
from math import factorial

from brute import (HUGE, Base, Chooser, all_boxes, all_up, best_lists, counts_of, example, line_of, odd_objects,
                   ranges_on, spread)
from scanranges import orders
from scanranges.boxes import Box
from scanranges.errors import InvalidOrder
from scanranges.orders import (best_order, count_best, fewest_ranges, is_best, most_ranges, rules, worst_order)
from scanranges.ranges import range_count
from scanranges.valuesets import ValueSet

IDLE = ValueSet(1, [(0, 0)])
FULL = ValueSet(5, [(0, 4)])
WRAPPING = [
    ValueSet(7, [(0, 1), (5, 6)]),                      # 1/3
    ValueSet(5, [(0, 0), (3, 4)]),                      # 1/2
    ValueSet(9, [(0, 0), (3, 4), (7, 8)]),              # 2/4
    ValueSet(4, [(0, 0), (3, 3)]),                      # 1/1
    ValueSet(9, [(0, 0), (2, 2), (5, 8)]),              # 2/5
    FULL,
    ValueSet(2, [(0, 1)]),
]
OTHERS = [
    ValueSet(10, [(3, 3)]),                             # 1/1
    ValueSet(4, [(0, 2)]),                              # 1/3
    ValueSet(4, [(2, 3)]),                              # 1/2
    ValueSet(8, [(1, 1), (3, 5)]),                      # 2/4
    ValueSet(9, [(0, 0), (2, 2), (4, 4), (6, 7)]),      # 4/5
    ValueSet(2, [(1, 1)]),                              # 1/1
    ValueSet(100, [(20, 49)]),                          # 1/30
]
SHAPES = [IDLE] + WRAPPING + OTHERS


def chosen_boxes(shapes, many, count, start):
    """So many boxes of so many columns; the columns of every second one are of few shapes, so that some are alike."""
    choose = Chooser(start)
    found = []
    for at in range(count):
        few = [choose.one(shapes) for _ in range(2)] if at % 2 else shapes
        found.append(Box([choose.one(few) for _ in range(many)]))
    return found


class Counts(Base):
    """Points 4 and 9: against range_count over all lists of columns."""

    def check(self, box):
        many = len(box.sets)
        counts = {columns: range_count(box, all_up(columns)) for columns in permutations(range(many))}
        fewest, most = min(counts.values()), max(counts.values())
        best = sorted([columns for columns in counts if counts[columns] == fewest])
        worst = sorted([columns for columns in counts if counts[columns] == most])
        self.assertEqual((fewest_ranges(box), most_ranges(box)), (fewest, most), box.sets)
        self.assertEqual(best_order(box), all_up(best[0]), box.sets)
        self.assertEqual(worst_order(box), all_up(worst[0]), box.sets)
        self.assertEqual(count_best(box), len(best), box.sets)
        kept = [columns for columns in counts if keeps(rules(box), columns)]
        self.assertEqual(sorted(kept), best, box.sets)
        for at, columns in enumerate(counts):
            order = [(column, (at + place) % 3 > 0) for place, column in enumerate(columns)]
            self.assertIs(is_best(box, order), columns in best, (box.sets, order))

    def test_one_column(self):
        for shape in SHAPES + [ValueSet(1, []), ValueSet(4, [])]:
            self.check(Box([shape]))

    def test_two_columns(self):
        for one, other in product(SHAPES, repeat=2):
            self.check(Box([one, other]))

    def test_three_columns(self):
        for sets in list(product(SHAPES, repeat=3))[::3]:
            self.check(Box(list(sets)))

    def test_four_columns(self):
        for box in chosen_boxes(SHAPES, 4, 500, 1):
            self.check(box)

    def test_five_columns(self):
        for box in chosen_boxes(SHAPES, 5, 120, 2):
            self.check(box)

    def test_all_columns_wrap(self):
        for many in (2, 3, 4, 5):
            for box in chosen_boxes([IDLE] + WRAPPING, many, 40, many):
                self.check(box)

    def test_no_column_wraps(self):
        for many in (2, 3, 4, 5):
            for box in chosen_boxes(OTHERS, many, 40, many):
                self.check(box)

    def test_one_column_that_does_not_wrap(self):
        for at, other in enumerate(OTHERS):
            for box in chosen_boxes([IDLE] + WRAPPING, 3, 12, at):
                for place in range(4):
                    sets = box.sets
                    sets.insert(place, other)
                    self.check(Box(sets))

    def test_all_boxes_of_small_columns(self):
        for sizes in ([3, 3], [4, 2], [1, 4], [2, 1, 3], [2, 2, 2], [3, 3, 2]):
            for box in all_boxes(sizes):
                self.check(box)

    def test_key_by_key(self):
        for box in all_boxes([3, 2, 3])[::3]:
            counts = {}
            for columns in permutations(range(3)):
                counts[columns] = len(ranges_on(line_of(box.sizes, all_up(columns)), box))
            self.assertEqual(fewest_ranges(box), min(counts.values()))
            self.assertEqual(most_ranges(box), max(counts.values()))
            self.assertEqual(count_best(box), list(counts.values()).count(min(counts.values())))

    def test_nearly_alike_columns(self):
        # Their numbers differ by less than any fraction of machine words could tell.
        near = [ValueSet(HUGE, [(1, 10 ** 29 + more)]) for more in (0, 1, 2)]
        wraps = [ValueSet(HUGE, [(0, 10 ** 29), (HUGE - more, HUGE - 1)]) for more in (1, 2)]
        for sets in permutations(near):
            self.check(Box(list(sets)))
        for box in chosen_boxes(near + wraps, 4, 60, 4):
            self.check(box)

    def test_great_columns(self):
        great = [ValueSet(HUGE, spread(12, 1, 10 ** 27)), ValueSet(HUGE, [(0, 10 ** 20), (10 ** 25, HUGE - 1)]),
                 ValueSet(HUGE, [(0, HUGE - 1)]), ValueSet(HUGE, [(9, 9)]), ValueSet(HUGE, [(0, HUGE - 2)]), IDLE,
                 ValueSet(HUGE, [(0, 0), (HUGE - 1, HUGE - 1)])]
        for box in chosen_boxes(great, 4, 100, 6):
            self.check(box)


def keeps(told, columns):
    pairs, clauses = told
    place = {column: at for at, column in enumerate(columns)}
    return all([place[a] < place[b] for a, b in pairs]) and all(
        [any([place[a] < place[candidate] for candidate in candidates]) for a, candidates in clauses])


class TheExample(Base):
    def test_all_of_it(self):
        box = example()
        self.assertEqual(fewest_ranges(box), 4)
        self.assertEqual(most_ranges(box), 120)
        self.assertEqual(count_best(box), 2)
        self.assertEqual(best_order(box), [(0, True), (1, True), (2, True)])
        self.assertEqual(worst_order(box), [(1, True), (2, True), (0, True)])
        self.assertEqual(rules(box), ([], [(0, [2]), (1, [2])]))
        best = [columns for columns in permutations(range(3)) if is_best(box, all_up(columns))]
        self.assertEqual(best, [(0, 1, 2), (1, 0, 2)])


class EightColumns(Base):
    """Each of 40,320 lists of columns, counted by R1."""

    def test_boxes_of_eight_columns(self):
        rows = [
            SHAPES[:8], SHAPES[7:15], [IDLE, FULL, FULL] + OTHERS[:2] + WRAPPING[:3],
            [WRAPPING[0], OTHERS[1], WRAPPING[1], OTHERS[2], OTHERS[3], WRAPPING[2], IDLE, WRAPPING[3]],
        ]
        for sets in rows:
            box = Box(sets)
            counts = counts_of(box)
            fewest, most = min(counts.values()), max(counts.values())
            best = [columns for columns in counts if counts[columns] == fewest]
            self.assertEqual((fewest_ranges(box), most_ranges(box), count_best(box)), (fewest, most, len(best)))
            self.assertEqual(best_order(box), all_up(min(best)))
            self.assertEqual(worst_order(box), all_up(min([one for one in counts if counts[one] == most])))
            told = rules(box)
            for columns in counts:
                self.assertIs(keeps(told, columns), counts[columns] == fewest)
            for columns in best[:20] + list(counts)[::397]:
                self.assertIs(is_best(box, all_up(columns)), counts[columns] == fewest)

    def test_great_alike_ones(self):
        ends = ValueSet(HUGE, [(0, 0), (HUGE - 1, HUGE - 1)])
        box = Box([ends] * 8)
        self.assertEqual((fewest_ranges(box), most_ranges(box), count_best(box)), (256, 256, factorial(8)))
        self.assertEqual((best_order(box), worst_order(box)), (all_up(range(8)), all_up(range(8))))
        full, one = ValueSet(HUGE, [(0, HUGE - 1)]), ValueSet(HUGE, [(5, 5)])
        box = Box([full] * 7 + [one])
        self.assertEqual((fewest_ranges(box), most_ranges(box)), (1, HUGE ** 7))
        self.assertEqual(count_best(box), factorial(7))
        self.assertEqual(best_order(box), all_up([7, 0, 1, 2, 3, 4, 5, 6]))
        self.assertEqual(worst_order(box), all_up(range(8)))
        self.assertEqual(rules(box), ([(7, column) for column in range(7)], []))


class Rules(Base):
    """Point 9: pairs and clauses."""

    def test_all_columns_wrap(self):
        box = Box([WRAPPING[0], FULL, IDLE, WRAPPING[3], WRAPPING[1], WRAPPING[2]])
        self.assertEqual(rules(box), ([(0, 1), (3, 0), (3, 1), (3, 4), (3, 5), (4, 0), (4, 1), (5, 0), (5, 1)], []))
        self.assertEqual(rules(Box([FULL, FULL])), ([], []))
        self.assertEqual(rules(Box([WRAPPING[1], WRAPPING[2]])), ([], []))

    def test_equal_numbers_in_unlike_shapes(self):
        half, quarters = OTHERS[2], OTHERS[3]
        self.assertEqual(half.total * 2, quarters.total)
        self.assertEqual(rules(Box([half, quarters])), ([], []))
        self.assertEqual(rules(Box([OTHERS[0], half, quarters])), ([], [(0, [1, 2])]))
        self.assertEqual(rules(Box([half, WRAPPING[1], quarters, WRAPPING[2]])), ([], []))
        self.assertEqual(rules(Box([WRAPPING[1], WRAPPING[0], quarters, WRAPPING[2]])),
                         ([(0, 1), (2, 1), (3, 1)], []))

    def test_each_kind_of_columns(self):
        # Z are 1 and 5, E is 2, L are 0 and 6, H are 3, 4 and 7.
        box = Box([WRAPPING[0], OTHERS[2], WRAPPING[1], WRAPPING[3], OTHERS[4], OTHERS[3], FULL, OTHERS[0]])
        self.assertEqual(rules(box), ([(0, 6), (1, 0), (1, 6), (2, 0), (2, 6), (5, 0), (5, 6)],
                                      [(3, [1, 5]), (4, [1, 5]), (7, [1, 5])]))

    def test_idle_columns_are_free(self):
        self.assertEqual(rules(Box([IDLE])), ([], []))
        self.assertEqual(rules(Box([IDLE] * 8)), ([], []))
        self.assertEqual(rules(Box([IDLE, FULL, IDLE, OTHERS[0], IDLE])), ([(3, 1)], []))
        self.assertEqual(rules(Box([OTHERS[0], IDLE, OTHERS[1]])), ([], [(0, [2])]))

    def test_one_value_of_two_does_not_wrap(self):
        # A column with more values is not idle, though its set may have only one.
        self.assertEqual(rules(Box([ValueSet(2, [(0, 0)]), FULL])), ([(0, 1)], []))
        self.assertEqual(rules(Box([FULL, ValueSet(2, [(1, 1)])])), ([(1, 0)], []))

    def test_two_columns_of_l(self):
        self.assertEqual(rules(Box([FULL, WRAPPING[0], OTHERS[2]])), ([(1, 0), (2, 0), (2, 1)], []))
        self.assertEqual(rules(Box([FULL, FULL, OTHERS[2]])), ([(2, 0), (2, 1)], []))

    def test_empty_boxes(self):
        none = ValueSet(5, [])
        for sets in ([none], [FULL, none], [OTHERS[0], OTHERS[1], none], [ValueSet(1, []), FULL, OTHERS[0]]):
            self.assertEqual(rules(Box(sets)), ([], []))

    def test_ascending(self):
        for box in chosen_boxes(SHAPES, 6, 200, 9):
            pairs, clauses = rules(box)
            self.assertEqual(pairs, sorted(set(pairs)))
            self.assertEqual([a for a, _ in clauses], sorted({a for a, _ in clauses}))
            for _, candidates in clauses:
                self.assertEqual(candidates, sorted(set(candidates)))

    def test_kinds_of_values(self):
        told = rules(Box([WRAPPING[0], OTHERS[2], WRAPPING[1], WRAPPING[3], OTHERS[4], OTHERS[3], FULL, OTHERS[0]]))
        self.assertEqual([type(told)] + [type(part) for part in told], [tuple, list, list])
        for pair in told[0]:
            self.assertEqual((type(pair), type(pair[0]), type(pair[1])), (tuple, int, int))
        for clause in told[1]:
            self.assertEqual((type(clause), type(clause[0]), type(clause[1])), (tuple, int, list))

    def test_new_lists_each_time(self):
        for box in (example(), Box([OTHERS[0], OTHERS[2], OTHERS[3], OTHERS[4], FULL]), Box([ValueSet(3, [])])):
            first, second = rules(box), rules(box)
            kept = (list(first[0]), [(a, list(candidates)) for a, candidates in first[1]])
            lists = [part for told in (first, second) for part in told]
            lists += [candidates for told in (first, second) for _, candidates in told[1]]
            self.assertEqual(len({id(one) for one in lists}), len(lists))
            for one in lists:
                one.append(99)
            self.assertEqual(rules(box), kept)
            self.assertEqual(best_order(box), all_up(best_lists(box)[0]))


class EmptyBoxes(Base):
    """Each order is best and worst."""

    def test_empty_boxes(self):
        none = ValueSet(5, [])
        for sets in ([none], [ValueSet(1, [])], [FULL, none], [none, OTHERS[0], FULL], [OTHERS[0], FULL, none, IDLE]):
            box = Box(sets)
            many = len(sets)
            self.assertEqual((fewest_ranges(box), most_ranges(box)), (0, 0))
            self.assertEqual((best_order(box), worst_order(box)), (all_up(range(many)), all_up(range(many))))
            self.assertEqual(count_best(box), factorial(many))
            for columns in permutations(range(many)):
                self.assertIs(is_best(box, [(column, column == 0) for column in columns]), True)

    def test_eight_columns(self):
        box = Box([FULL] * 7 + [ValueSet(4, [])])
        self.assertEqual((fewest_ranges(box), most_ranges(box), count_best(box)), (0, 0, 40320))

    def test_is_best_checks_the_order(self):
        box = Box([FULL, ValueSet(4, [])])
        for bad in odd_objects() + [[(0, True)], [(0, 1), (1, 1)], ((0, True), (1, True))]:
            self.exactly(InvalidOrder, is_best, box, bad)


class HowTheyAreCalled(Base):
    """Point 2."""

    def test_by_name(self):
        box = example()
        self.assertEqual(fewest_ranges(box=box), 4)
        self.assertEqual(most_ranges(box=box), 120)
        self.assertEqual(best_order(box=box), all_up([0, 1, 2]))
        self.assertEqual(worst_order(box=box), all_up([1, 2, 0]))
        self.assertIs(is_best(order=all_up([1, 0, 2]), box=box), True)
        self.assertEqual(count_best(box=box), 2)
        self.assertEqual(rules(box=box), ([], [(0, [2]), (1, [2])]))

    def test_is_best_refuses_what_is_no_order(self):
        bad = [[], all_up([0, 1]), all_up([0, 1, 1]), all_up([0, 1, 3]), all_up([0, 1, 2, 3]), [0, 1, 2],
               tuple(all_up([0, 1, 2])), [[0, True], (1, True), (2, True)], [(0, 1), (1, True), (2, True)],
               [(False, True), (1, True), (2, True)]]
        for order in bad + odd_objects():
            with self.subTest(order=order):
                self.exactly(InvalidOrder, is_best, example(), order)
        self.exactly(InvalidOrder, is_best, box=example(), order=None)

    def test_new_orders_each_time(self):
        for box in (example(), Box([FULL, ValueSet(4, [])])):
            for call in (best_order, worst_order):
                first = call(box)
                kept = list(first)
                self.assertIs(type(first), list)
                self.assertTrue(all([type(place) is tuple and type(place[0]) is int and place[1] is True
                                     for place in first]))
                first.reverse()
                first.append(None)
                self.assertIsNot(call(box), first)
                self.assertEqual(call(box), kept)

    def test_nothing_is_modified(self):
        box, order = example(), [(2, False), (0, True), (1, False)]
        sets = box.sets
        for call in (fewest_ranges, most_ranges, best_order, worst_order, count_best, rules):
            self.assertEqual(call(box), call(box))
        self.assertIs(is_best(box, order), False)
        self.assertEqual(order, [(2, False), (0, True), (1, False)])
        self.assertEqual(box.sets, sets)

    def test_kinds_of_answers(self):
        for box in (example(), Box([ValueSet(4, [])])):
            self.assertEqual([type(call(box)) for call in (fewest_ranges, most_ranges, count_best)], [int] * 3)
            self.assertIs(type(is_best(box, all_up(range(len(box.sets))))), bool)

    def test_they_are_defined_here(self):
        for one in (fewest_ranges, most_ranges, best_order, worst_order, is_best, count_best, rules):
            self.assertEqual(one.__module__, orders.__name__)


if __name__ == "__main__":
    unittest.main()
