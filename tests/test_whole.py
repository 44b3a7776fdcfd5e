"""The whole program for small columns, against the line written out key by key."""

import unittest
from itertools import permutations

from brute import (Base, Chooser, all_boxes, all_orders, all_up, condition_of, counted, gaps_on, kept_on, line_of,
                   needed_on, rank, runs_on, side_of, some_condition, some_keys, some_order, some_wish, turned)
from scanranges import errors
from scanranges.boxes import Box
from scanranges.common import common_order
from scanranges.diagrams import Diagram, parting_key
from scanranges.gaps import gap_lengths, merged_cost, read_in_vain
from scanranges.orders import best_order, count_best, fewest_ranges, is_best, most_ranges
from scanranges.ranges import nth_range, range_count, range_of
from scanranges.session import session
from scanranges.sorting import box_sorted, is_sorted, sorting_paper
from scanranges.stores import Store
from scanranges.tables import batch, first_answers, least_cost, matches, needed_answers, questions, worst_table
from scanranges.texts import read_condition, read_order, read_set, write_condition, write_order, write_set
from scanranges.valuesets import ValueSet


class OneBoxEverywhere(Base):
    """A box, its diagram, its gaps, its orders, tables and a store."""

    def check(self, choose, box, order, line):
        told = (box.sets, order)
        kept = [key for key in line if key in box]
        runs = runs_on(line, kept)
        diagram = Diagram(box.sizes, order, read_condition(write_condition(condition_of(box))))
        ends = [(keys[0], keys[-1]) for keys in runs]
        self.assertEqual((diagram.total, diagram.range_total), (len(kept), len(runs)), told)
        self.assertEqual((box.total, range_count(box, order)), (len(kept), len(runs)), told)
        self.assertEqual([diagram.nth_range(index) for index in range(len(runs))], ends, told)
        self.assertEqual([nth_range(box, order, index) for index in range(len(runs))], ends, told)
        self.assertEqual([range_of(box, order, key) for key in line], [diagram.range_of(key) for key in line], told)
        gaps = gaps_on(line, box)
        self.assertEqual(gap_lengths(box, order), counted(gaps), told)
        self.assertEqual(read_in_vain(box, order, 2), sum(sorted(gaps)[:-1]), told)
        self.assertEqual(merged_cost(box, order, 2), 2 * bool(kept) + sum([min(2, gap) for gap in gaps]), told)
        self.check_table(choose, diagram, line, kept, runs)
        wish = some_wish(choose, order)
        self.assertEqual((box_sorted(box, order, wish), is_sorted(diagram, wish)), (side_of(kept, wish),) * 2, told)
        self.assertIs(sorting_paper(diagram, wish) is None, side_of(kept, wish) == "forwards", told)
        return len(runs)

    def check_table(self, choose, diagram, line, kept, runs):
        keys = some_keys(choose, line, 6)
        needed = needed_on(line, keys, kept)
        self.assertEqual(matches(diagram, keys), [key for key in kept if key in keys])
        self.assertEqual(needed_answers(diagram, keys), needed)
        self.assertEqual([answer for _, answer in questions(diagram, keys)], needed)
        self.assertEqual(least_cost(diagram, keys, 1), len(needed))
        self.assertEqual(first_answers(diagram, keys, line[0], None), needed)
        self.assertEqual(batch([diagram, ~diagram, diagram], keys)[1],
                         2 * len(needed) + len(needed_answers(~diagram, keys)))
        worst = worst_table(diagram)
        self.assertEqual(len(needed_on(line, worst, kept)), len(runs))
        self.assertLessEqual(len(needed), len(matches(diagram, keys)) + len(runs))

    def test_in_each_order_with_each_direction(self):
        choose = Chooser(1)
        for sizes in ([4], [3, 3], [2, 3, 2], [1, 4, 2]):
            boxes = all_boxes(sizes)
            orders = all_orders(len(sizes))
            lines = [line_of(sizes, order) for order in orders]
            for box in boxes[::max(1, len(boxes) // 40)]:
                counts = {}
                for order, line in zip(orders, lines):
                    counts.setdefault(tuple([column for column, _ in order]), self.check(choose, box, order, line))
                self.check_orders(box, counts)

    def check_orders(self, box, counts):
        fewest = min(counts.values())
        best = sorted([columns for columns, many in counts.items() if many == fewest])
        self.assertEqual((fewest_ranges(box), most_ranges(box)), (fewest, max(counts.values())))
        self.assertEqual((best_order(box), common_order([box, box])), (all_up(best[0]), all_up(best[0])))
        self.assertEqual(count_best(box), len(best))
        for columns in permutations(range(len(box.sets))):
            self.assertIs(is_best(box, all_up(columns)), columns in best)


class StoresWithSeveralIndexes(Base):
    def test_against_the_line(self):
        choose = Chooser(2)
        for at in range(60):
            sizes = choose.one(([5], [3, 4], [2, 3, 3]))
            orders = [some_order(choose, len(sizes)) for _ in range(1 + at % 6)]
            rows = some_keys(choose, line_of(sizes, orders[0]), 12)
            store = Store(sizes, orders)
            for key in rows:
                store.put(key)
            condition = some_condition(choose, sizes, 1 + at % 5)
            wish = some_wish(choose, orders[0])
            for many in (0, 1, 3, None):
                self.check(store, sizes, orders, rows, condition, wish, many)

    def check(self, store, sizes, orders, rows, condition, wish, many):
        fitting = kept_on(rows, condition)
        wanted = len(fitting) if many is None else min(many, len(fitting))
        expected = []
        for order in orders:
            line = line_of(sizes, order)
            kept = kept_on(line, condition)
            side = side_of(kept, wish)
            if many == 0:
                expected.append((side, 0, 0))
                continue
            along = line[::-1] if side == "backwards" else line
            needed = needed_on(along, rows, kept)
            learnt = len(fitting) if side is None else wanted
            if side is not None and many is not None and len(fitting) >= many:
                last = [key for key in along if key in fitting][many - 1]
                needed = needed[:needed.index(last) + 1]
            expected.append((side, len(needed), learnt + len(runs_on(line, kept))))
        self.assertEqual(store.costs(condition, wish, many), expected)
        asked = [one for _, one, _ in expected]
        self.assertEqual(store.cheapest(condition, wish, many), asked.index(min(asked)))
        ranks = sorted([rank(wish, key) for key in fitting])[:wanted]
        self.assertEqual([rank(wish, key) for key in store.answer(condition, wish, many)], ranks)
        self.assertIs(store.shows_answer(condition, wish, many, store.answer(condition, wish, many)), True)

    def test_a_session_says_the_same(self):
        choose = Chooser(3)
        for at in range(40):
            sizes = choose.one(([5], [3, 4], [2, 3, 3]))
            orders = [some_order(choose, len(sizes)) for _ in range(1 + at % 6)]
            rows = some_keys(choose, line_of(sizes, orders[0]), 8)
            condition = some_condition(choose, sizes, 1 + at % 5)
            text = write_condition(condition)
            lines = ["sizes " + " ".join([str(size) for size in sizes])]
            lines.extend(["index " + write_order(order) for order in orders])
            lines.extend(["put " + " ".join([str(value) for value in key]) for key in rows])
            expected = ["ok"] * len(lines)
            needed = []
            for index, order in enumerate(orders):
                line = line_of(sizes, order)
                kept = kept_on(line, condition)
                needed.append(len(needed_on(line, rows, kept)))
                lines.extend([f"ranges {index} {text}", f"cost {index} {text}"])
                expected.extend([str(len(runs_on(line, kept))), str(needed[-1])])
            lines.append(f"cheapest {text}")
            expected.append(str(needed.index(min(needed))))
            self.assertEqual(session("\n".join(lines)).split("\n"), expected)


class ValuesThatLeadOn(Base):
    """What one part of the program returns is what another part takes."""

    def test_orders_sets_and_keys(self):
        for box in all_boxes([3, 4])[5::9]:
            order = read_order(write_order(best_order(box)))
            sets = [ValueSet(one.size, read_set(write_set(one.stretches))) for one in box.sets]
            self.assertEqual(Box(sets), box)
            diagram = Diagram(box.sizes, order, condition_of(Box(sets)))
            self.assertEqual(diagram.range_total, fewest_ranges(box))
            back = Diagram(diagram.sizes, turned(diagram.order), condition_of(box))
            for index in range(diagram.range_total):
                self.assertEqual(back.range_of(diagram.nth_range(index)[0]), diagram.range_total - 1 - index)
            store = Store(box.sizes, [order])
            for key in worst_table(diagram):
                store.put(key)
            self.assertEqual(store.costs(condition_of(box), [], None), [("forwards", diagram.range_total) + (
                diagram.range_total,)])
            found = parting_key(diagram, ~diagram)
            self.assertEqual(found, line_of(box.sizes, order)[0])

    def test_great_indices_and_keys_may_be_passed_back(self):
        sizes = [10 ** 30] * 8
        diagram = Diagram(sizes, all_up(range(8)), ("in", 7, [(5, 5), (9, 10)]))
        last = diagram.range_total - 1
        self.assertGreater(len(str(last)), 200)
        first, end = diagram.nth_range(last)
        self.assertEqual((diagram.range_of(first), diagram.range_of(end)), (last, last))
        self.assertEqual(diagram.nth_key(diagram.key_index(end)), end)
        box = Box([ValueSet(10 ** 30, [(0, 10 ** 30 - 1)])] * 7 + [ValueSet(10 ** 30, [(5, 5), (9, 10)])])
        self.assertEqual(read_in_vain(box, all_up(range(8)), range_count(box, all_up(range(8)))), 0)
        self.assertEqual(merged_cost(box, all_up(range(8)), read_in_vain(box, all_up(range(8)), 1)),
                         2 * read_in_vain(box, all_up(range(8)), 1))


class EachErrorIsRaised(Base):
    """Each class of point 5 is raised somewhere, exactly, and is a ScanError and a ValueError."""

    def test_all_seventeen(self):
        up = all_up([0])
        box, diagram = Box([ValueSet(5, [(1, 1)])]), Diagram([5], up, ("in", 0, [(1, 1), (3, 3)]))
        store = Store([5], [up])
        store.put((1,))
        many = Diagram([5000], up, ("not", ("in", 0, [(0, 0)])))
        for value in range(2, 810, 2):
            many = many & ~Diagram([5000], up, ("in", 0, [(value, value)]))
        calls = {
            "InvalidSizes": lambda: Store([], [up]), "InvalidSet": lambda: ValueSet(0, []),
            "InvalidBox": lambda: Box([]),
            "InvalidOrder": lambda: gap_lengths(box, []), "InvalidCondition": lambda: Diagram([5], up, None),
            "InvalidKey": lambda: store.put((5,)), "InvalidTable": lambda: matches(diagram, None),
            "InvalidWish": lambda: is_sorted(diagram, None), "InvalidBoxes": lambda: batch([], []),
            "InvalidNumber": lambda: diagram.nth_key(2), "OtherSizes": lambda: parting_key(diagram, many),
            "EmptyBox": lambda: Box([ValueSet(5, [])]).numbers(), "AlreadyThere": lambda: store.put((1,)),
            "NotThere": lambda: store.take((2,)), "TooMany": lambda: worst_table(many),
            "NothingToUndo": lambda: Store([5], [up]).undo(), "InvalidText": lambda: read_set(""),
        }
        self.assertEqual(len(calls), 17)
        for name, call in calls.items():
            with self.subTest(name):
                self.exactly(getattr(errors, name), call)
                self.assertRaises(ValueError, call)


if __name__ == "__main__":
    unittest.main()
