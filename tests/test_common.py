import unittest
from itertools import permutations, product

from brute import HUGE, Base, Chooser, all_boxes, all_up, best_lists, example, odd_objects
from scanranges import common
from scanranges.boxes import Box
from scanranges.common import common_order, order_groups, shows_order_groups, shows_stuck_set, stuck_set
from scanranges.errors import InvalidBoxes
from scanranges.orders import is_best, rules
from scanranges.valuesets import ValueSet

# Sets of one column of ten values, of many numbers, so that boxes of such columns seldom agree.
TEN = [
    ValueSet(10, [(0, 9)]), ValueSet(10, [(3, 3)]), ValueSet(10, [(0, 2)]), ValueSet(10, [(5, 6)]),
    ValueSet(10, [(0, 1), (5, 9)]), ValueSet(10, [(0, 0), (9, 9)]), ValueSet(10, [(1, 1), (3, 5)]),
    ValueSet(10, [(0, 0), (4, 5), (8, 9)]), ValueSet(10, [(1, 8)]), ValueSet(10, [(0, 0), (8, 9)]),
]
NONE = ValueSet(10, [])
CALLS = [("common_order", ()), ("stuck_set", ()), ("shows_stuck_set", ([],)), ("order_groups", ()),
         ("shows_order_groups", ([],))]


def stuck_example():
    """The document's example and the box beside it."""
    return [example(), Box([ValueSet(10, [(0, 4)]), ValueSet(7, [(0, 6)]), ValueSet(100, [(7, 7)])])]


def chosen_lists(options, columns, boxes, count, start):
    """So many lists of boxes; in some of the columns all boxes of a list have the same set."""
    choose = Chooser(start)
    found = []
    for _ in range(count):
        alike = [choose.one(options) if choose.one((True, False)) else None for _ in range(columns)]
        rows = [[choose.one(options) if one is None else one for one in alike] for _ in range(boxes)]
        found.append([Box(sets) for sets in rows])
    return found


def common_lists(boxes):
    """The lists of columns that are best for each box, ascending."""
    best = [best_lists(box) for box in boxes]
    return sorted(set(best[0]).intersection(*best[1:]))


def partings(indices):
    """All ways to part a list of indices into lists."""
    if not indices:
        yield []
        return
    for groups in partings(indices[1:]):
        yield [[indices[0]]] + groups
        for at, group in enumerate(groups):
            yield groups[:at] + [[indices[0]] + group] + groups[at + 1:]


def proves(boxes, thing):
    """What point 10 says of a stuck set, word by word, of a thing that has its form."""
    columns = [column for column, _, _ in thing]
    for column, index, why in thing:
        pairs, clauses = rules(boxes[index])
        if isinstance(why, list):
            fits = (column, why) in clauses and all([one in columns for one in why])
        else:
            fits = (column, why) in pairs and why in columns
        if not fits:
            return False
    return columns == sorted(set(columns)) and len(columns) > 0


class CommonOrders(Base):
    """Against trying all lists of columns."""

    def check(self, boxes):
        lists = common_lists(boxes)
        stuck = stuck_set(boxes)
        told = [box.sets for box in boxes]
        if lists:
            self.assertEqual(common_order(boxes), all_up(lists[0]), told)
            self.assertIs(stuck, None, told)
        else:
            self.assertIs(common_order(boxes), None, told)
            self.assertIs(shows_stuck_set(boxes, stuck), True, (told, stuck))
            self.assertTrue(proves(boxes, stuck), (told, stuck))
        return bool(lists)

    def check_some(self, rows):
        # Rows in which all or none of the lists have a common order would test only one half.
        found = [self.check(boxes) for boxes in rows]
        self.assertTrue(any(found))
        self.assertFalse(all(found))

    def test_one_box(self):
        for box in all_boxes([3, 4]) + all_boxes([1, 3, 2]) + [example()]:
            self.assertIs(self.check([box]), True)

    def test_all_pairs_of_small_boxes(self):
        boxes = all_boxes([3, 3])
        self.check_some([[one, other] for one, other in product(boxes, repeat=2)])

    def test_three_boxes_of_three_columns(self):
        boxes = all_boxes([2, 3, 2])
        choose = Chooser(8)
        self.check_some([[choose.one(boxes) for _ in range(3)] for _ in range(600)])

    def test_one_to_five_columns(self):
        for columns in (2, 3, 4):
            self.check_some(chosen_lists(TEN, columns, 2, 150, columns))
            self.check_some(chosen_lists(TEN, columns, 3, 150, columns + 10))
        self.check_some(chosen_lists(TEN, 5, 2, 60, 5))
        self.check_some(chosen_lists(TEN + [NONE], 5, 3, 60, 6))
        for boxes in chosen_lists(TEN + [NONE], 1, 4, 30, 7):
            self.assertIs(self.check(boxes), True)

    def test_eight_boxes(self):
        self.check_some(chosen_lists(TEN[:5] + [NONE], 3, 8, 120, 31))

    def test_columns_with_one_value_and_great_ones(self):
        idle, great = ValueSet(1, [(0, 0)]), [ValueSet(HUGE, [(0, HUGE - 1)]), ValueSet(HUGE, [(10, 10 ** 20)]),
                                              ValueSet(HUGE, [(0, 10 ** 20), (HUGE - 3, HUGE - 1)])]
        rows = []
        for boxes in chosen_lists(great, 3, 3, 80, 12):
            rows.append([Box([one.sets[0], idle, one.sets[1], one.sets[2]]) for one in boxes])
        self.check_some(rows)

    def test_eight_columns(self):
        fitting, stuck = 0, 0
        for boxes in chosen_lists(TEN, 8, 2, 3, 44) + [[Box(TEN[:8]), Box(TEN[:8])], [Box(TEN[2:]), Box([NONE] * 8)]]:
            lists = common_lists(boxes)
            if lists:
                fitting += 1
                self.assertEqual(common_order(boxes), all_up(lists[0]))
                self.assertIs(stuck_set(boxes), None)
            else:
                stuck += 1
                self.assertIs(common_order(boxes), None)
                self.assertIs(shows_stuck_set(boxes, stuck_set(boxes)), True)
        self.assertTrue(fitting and stuck)

    def test_full_columns_around_one(self):
        first = Box([TEN[1]] + [TEN[0]] * 7)
        second = Box([TEN[0]] * 7 + [TEN[1]])
        self.assertEqual(common_order([first]), all_up(range(8)))
        self.assertEqual(common_order([second]), all_up([7, 0, 1, 2, 3, 4, 5, 6]))
        self.assertIs(common_order([first, second]), None)
        self.assertEqual(stuck_set([first, second]), [(0, 0, 7), (7, 1, 0)])

    def test_empty_boxes_among_the_boxes(self):
        none = Box([NONE, TEN[1], TEN[0]])
        other = Box([TEN[0], TEN[0], TEN[1]])
        for boxes in ([none], [none] * 8, [none, other], [other, none, none], [none, other, none, other]):
            expected = [2, 0, 1] if other in boxes else [0, 1, 2]
            self.assertEqual(common_order(boxes), all_up(expected))
            self.assertIs(stuck_set(boxes), None)
        third = Box([TEN[1], TEN[0], TEN[0]])
        self.assertIs(common_order([none, other, none, third]), None)
        self.assertEqual(stuck_set([none, other, none, third]), [(0, 3, 2), (2, 1, 0)])

    def test_the_order_is_best_for_each(self):
        for boxes in chosen_lists(TEN[:6], 4, 2, 60, 3):
            order = common_order(boxes)
            if order:
                self.assertTrue(all([is_best(box, order) for box in boxes]))

    def test_a_new_list_each_time(self):
        first = common_order([example()])
        self.assertIs(type(first), list)
        self.assertTrue(all([type(place) is tuple and type(place[0]) is int and place[1] is True for place in first]))
        first.reverse()
        self.assertEqual(common_order([example()]), all_up([0, 1, 2]))


class StuckSets(Base):
    def test_the_example(self):
        boxes = stuck_example()
        self.assertIs(common_order(boxes), None)
        for thing in ([(0, 0, [2]), (2, 1, [0])], [(0, 0, [2]), (1, 0, [2]), (2, 1, [0])],
                      [(0, 1, 1), (1, 0, [2]), (2, 1, [0])], stuck_set(boxes)):
            self.assertIs(shows_stuck_set(boxes, thing), True)
        turned = boxes[::-1]
        self.assertIs(shows_stuck_set(turned, [(0, 1, [2]), (2, 0, [0])]), True)
        self.assertIs(shows_stuck_set(turned, [(0, 0, [2]), (2, 1, [0])]), False)

    def test_bent_at_one_place(self):
        boxes = stuck_example()
        rows = [
            [], [(0, 0, [2])], [(2, 1, [0])], [(2, 1, [0]), (0, 0, [2])], [(0, 0, [2]), (0, 0, [2]), (2, 1, [0])],
            [(0, 0, [2]), (2, 1, [0]), (2, 1, [0])], [(0, 0, [2]), (2, 1, [0]), (1, 0, [2])],
            [(0, 1, [2]), (2, 1, [0])], [(0, 0, [2]), (2, 0, [0])], [(0, 0, [2]), (2, 2, [0])],
            [(0, 0, [2]), (2, -1, [0])], [(0, -2, [2]), (2, 1, [0])], [(0, 0, [2]), (2, 10 ** 59, [0])],
            [(0, 0, [2]), (2, None, [0])], [(0, 0, [2]), (2, "1", [0])],
            [(0, 0, 0), (2, 1, [0])], [(0, 0, [0]), (2, 1, [0])], [(0, 0, [2]), (2, 1, [2])], [(0, 0, [2]), (2, 1, 2)],
            [(0, 0, 2), (2, 1, [0])], [(0, 0, [2]), (2, 1, 0)], [(0, 0, [1]), (2, 1, [0])],
            [(0, 0, [2, 2]), (2, 1, [0])], [(0, 0, []), (2, 1, [0])], [(0, 0, [2, 1]), (2, 1, [0])],
            [(0, 0, [0, 2]), (2, 1, [0])], [(0, 0, (2,)), (2, 1, [0])], [(0, 0, [2]), (2, 1, (0,))],
            [(0, 0, [[2]]), (2, 1, [0])], [(0, 0, None), (2, 1, [0])], [(0, 0, ["2"]), (2, 1, [0])],
            [(0, 0, [2]), (2, 1, [None])], [(0, 0, {2: 2}), (2, 1, [0])], [(0, 0, "2"), (2, 1, [0])],
            [[0, 0, [2]], (2, 1, [0])], [(0, 0, [2]), [2, 1, [0]]], ((0, 0, [2]), (2, 1, [0])),
            [[(0, 0, [2]), (2, 1, [0])]], [((0, 0, [2]), (2, 1, [0]))], {0: (0, [2]), 2: (1, [0])},
            [(False, 0, [2]), (2, 1, [0])], [(0, False, [2]), (2, 1, [0])], [(0, 0, [2]), (2, True, [0])],
            [(0, 0, [2]), (2, 1, [False])], [(0, 0, [2]), (True, 0, [2]), (2, 1, [0])],
            [(0, 1, True), (1, 0, [2]), (2, 1, [0])], [(0, 1, [1]), (1, 0, [2]), (2, 1, [0])],
            [(0, 1, 2), (1, 0, [2]), (2, 1, [0])], [(0, 0, 1), (1, 0, [2]), (2, 1, [0])], [(0, 1, 1), (2, 1, [0])],
            [(0, 0, [2], 0), (2, 1, [0])], [(0, 0), (2, 1, [0])], [(0, 0, [2]), (2,)], [(0, 0, [2]), ()],
            [(0, 0, [2]), (2, 1, [0]), (3, 0, [2])], [(-1, 0, [2]), (0, 0, [2]), (2, 1, [0])],
            [(-3, 0, [2]), (2, 1, [0])], [(0, 0, [2]), (5, 1, [0])], [("0", 0, [2]), (2, 1, [0])],
            [(None, 0, [2]), (2, 1, [0])], [(0, 0, [2]), (2, 1, [0]), None], [(0, 0, [2]), (2, 1, [0]), 0],
            [(10 ** 59, 0, [2])], [0, 2], None, 0, True, "stuck", boxes[0], boxes, [boxes[0]], [(0, 0, boxes[0])],
        ]
        for thing in rows + odd_objects():
            with self.subTest(thing=thing):
                self.assertIs(shows_stuck_set(boxes, thing), False)

    def test_pairs(self):
        boxes = [Box([TEN[1], TEN[0], TEN[0]]), Box([TEN[0], TEN[1], TEN[0]])]
        self.assertEqual(stuck_set(boxes), [(0, 0, 1), (1, 1, 0)])
        self.assertIs(shows_stuck_set(boxes, [(0, 0, 1), (1, 1, 0)]), True)
        rows = [
            [(0, 0, 2), (1, 1, 0)], [(0, 0, 1), (1, 1, 2)], [(0, 0, [1]), (1, 1, [0])], [(0, 1, 1), (1, 0, 0)],
            [(0, 0, 1)], [(1, 1, 0), (0, 0, 1)], [(0, 0, True), (1, 1, 0)], [(0, 0, 1), (1, 1, False)],
            [(0, 0, 1), (True, 1, 0)], [(0, 0, 1), (1, True, 0)], [(0, 0, 1), (1, 1, 1)], [(0, 0, 1), (1, 1, -3)],
            [(0, 0, 1), (1, 1, 0), (2, 0, 1)], [(0, 0, 1), (1, 1, (0,))], [(0, 0, 1), (1, 1, "0")],
            [(0, 0, 1), (1, 1, None)], [(0, 0, 1), (1, -1, 0)],
        ]
        for thing in rows:
            with self.subTest(thing=thing):
                self.assertIs(shows_stuck_set(boxes, thing), False)

    def test_all_candidates_are_in_the_list(self):
        # Column 0 stands before 1 or 2 in the first box, in the second one both of these stand before 0.
        boxes = [Box([TEN[1], TEN[2], TEN[2]]), Box([TEN[0], TEN[1], TEN[1]])]
        whole = [(0, 0, [1, 2]), (1, 1, 0), (2, 1, 0)]
        self.assertEqual(stuck_set(boxes), whole)
        self.assertIs(shows_stuck_set(boxes, whole), True)
        for thing in (whole[:2], [whole[0], whole[2]], whole[:1], whole[1:], [(0, 0, [2, 1])] + whole[1:],
                      [(0, 0, [1])] + whole[1:], [(0, 0, [1]), (1, 1, 0)], [(0, 0, 1)] + whole[1:]):
            self.assertIs(shows_stuck_set(boxes, thing), False)

    def test_each_thing_of_the_form(self):
        whys = [0, 1, 2] + [[], [0], [1], [2], [0, 1], [0, 2], [1, 2], [2, 1], [0, 1, 2]]
        reasons = [(index, why) for index in (0, 1) for why in whys]
        taken = 0
        candidates = [Box([TEN[1], TEN[2], TEN[2]]), Box([TEN[0], TEN[1], TEN[1]])]
        for boxes in (stuck_example(), candidates, [example(), example()]):
            for columns in ([0], [2], [0, 1], [0, 2], [1, 2], [2, 0], [0, 1, 2]):
                some = reasons[::2] + reasons[1::4] if len(columns) > 2 else reasons
                for chosen in product(some, repeat=len(columns)):
                    thing = [(column, index, why) for column, (index, why) in zip(columns, chosen)]
                    shown = shows_stuck_set(boxes, thing)
                    self.assertIs(shown, proves(boxes, thing), thing)
                    taken += shown
        self.assertGreater(taken, 0)

    def test_any_object(self):
        for boxes in (stuck_example(), [example()], [Box([TEN[0]]), Box([NONE])]):
            for thing in odd_objects():
                with self.subTest(thing=thing):
                    self.assertIs(shows_stuck_set(boxes, thing), False)

    def test_nothing_shows_it_where_there_is_a_common_order(self):
        for boxes in ([example()], [example()] * 8, [stuck_example()[1]]):
            self.assertIs(stuck_set(boxes), None)
            for thing in (None, [], [(0, 0, [2])], [(0, 0, [2]), (2, 0, [0])], [(0, 0, [2]), (2, 1, [0])]):
                self.assertIs(shows_stuck_set(boxes, thing), False)

    def test_new_lists_each_time(self):
        boxes = stuck_example()
        first, second = stuck_set(boxes), stuck_set(boxes)
        kept = [(column, index, list(why) if isinstance(why, list) else why) for column, index, why in first]
        self.assertEqual(first, second)
        lists = [first, second] + [why for _, _, why in first + second if isinstance(why, list)]
        self.assertGreater(len(lists), 4)
        self.assertEqual(len({id(one) for one in lists}), len(lists))
        for one in lists:
            one.append(9)
        self.assertEqual(stuck_set(boxes), kept)
        self.assertIs(shows_stuck_set(boxes, kept), True)

    def test_kinds_of_values(self):
        for boxes in (stuck_example(), [Box([TEN[1], TEN[0]]), Box([TEN[0], TEN[1]])]):
            for one in stuck_set(boxes):
                self.assertEqual((type(one), type(one[0]), type(one[1])), (tuple, int, int))
                self.assertIn(type(one[2]), (int, list))


class Groups(Base):
    def fitting(self, boxes):
        """Whether some of the boxes have a common best order, worked out from all lists of columns."""
        columns = list(permutations(range(len(boxes[0].sets))))
        best = [set(best_lists(box)) for box in boxes]
        return lambda group: any([all([one in best[index] for index in group]) for one in columns])

    def check(self, boxes):
        fits = self.fitting(boxes)
        known = {}
        fewest = len(boxes)
        for groups in partings(list(range(len(boxes)))):
            for group in groups:
                if tuple(group) not in known:
                    known[tuple(group)] = fits(group)
            if len(groups) < fewest and all([known[tuple(group)] for group in groups]):
                fewest = len(groups)
        found = order_groups(boxes)
        told = ([box.sets for box in boxes], found)
        self.assertEqual(len(found), fewest, told)
        self.assertEqual(sorted([index for group in found for index in group]), list(range(len(boxes))), told)
        self.assertTrue(all([group and fits(group) for group in found]), told)
        self.assertIs(shows_order_groups(boxes, found), True, told)
        return fewest

    def test_up_to_five_boxes(self):
        found = []
        for boxes in (1, 2, 3, 4, 5):
            for columns in (1, 2, 3):
                for one in chosen_lists(TEN + [NONE], columns, boxes, 25, boxes * 10 + columns):
                    found.append(self.check(one))
        self.assertEqual(sorted(set(found))[:3], [1, 2, 3])

    def test_up_to_eight_boxes(self):
        found = []
        for many in (6, 7, 8):
            for boxes in chosen_lists(TEN, 3, many, 8, many) + chosen_lists(TEN[:4], 4, many, 4, many):
                found.append(self.check(boxes))
        self.assertGreater(max(found), 2)

    def test_all_alike_and_all_apart(self):
        self.assertEqual(order_groups([example()] * 8), [list(range(8))])
        apart = [Box([TEN[1] if at == place else TEN[0] for at in range(8)]) for place in range(8)]
        found = order_groups(apart)
        self.assertEqual(sorted(found), [[index] for index in range(8)])
        self.assertIs(shows_order_groups(apart, found), True)
        self.assertEqual(len(order_groups(stuck_example() * 4)), 2)

    def test_where_taking_the_next_fitting_box_is_not_enough(self):
        # Box 0 goes together with 1 or 2, box 1 with 0 or 3; {0, 1} would leave 2 and 3 apart.
        full, one = TEN[0], TEN[1]
        boxes = [Box([full, full, one]), Box([full, one, one]), Box([one, full, one]), Box([full, one, full])]
        for thing, expected in (([[0, 1], [2], [3]], True), ([[0, 1], [2, 3]], False), ([[0, 2], [1, 3]], True)):
            self.assertIs(shows_order_groups(boxes, thing), expected)
        for turned in permutations(boxes):
            self.assertEqual(self.check(list(turned)), 2)

    def test_empty_boxes_fit_everywhere(self):
        none = Box([NONE, TEN[0], TEN[1]])
        self.assertEqual(order_groups([none] * 3), [[0, 1, 2]])
        boxes = [Box([TEN[1], TEN[0], TEN[0]]), none, Box([TEN[0], TEN[1], TEN[0]])]
        self.assertEqual(self.check(boxes), 2)
        for thing in ([[0, 1], [2]], [[0], [1, 2]], [[0], [1], [2]]):
            self.assertIs(shows_order_groups(boxes, thing), True)
        self.assertIs(shows_order_groups(boxes, [[0, 2], [1]]), False)

    def test_each_way_to_part_them(self):
        for boxes in chosen_lists(TEN, 3, 5, 12, 2) + chosen_lists(TEN, 2, 6, 4, 3):
            fits = self.fitting(boxes)
            for groups in partings(list(range(len(boxes)))):
                expected = all([fits(group) for group in groups])
                self.assertIs(shows_order_groups(boxes, groups), expected)
                self.assertIs(shows_order_groups(boxes, [group[::-1] for group in groups[::-1]]), expected)
                self.assertIs(shows_order_groups(boxes, groups + [[]]), False)

    def test_other_things(self):
        boxes = stuck_example() * 2
        for thing in ([[0, 2], [1, 3]], [[1, 3], [0, 2]], [[2, 0], [3, 1]], [[0], [1], [2], [3]], [[3], [0, 2], [1]]):
            self.assertIs(shows_order_groups(boxes, thing), True)
        rows = [
            [[0, 2], [1, 3], []], [[], [0, 2], [1, 3]], [[0, 2], [], [1], [3]], [[0, 2, 0], [1, 3]],
            [[0, 2], [1, 3], [3]], [[0, 2], [1]], [[2], [1, 3]], [[0, 2]], [[0, 1], [2, 3]], [[0, 1, 2, 3]],
            [[0, 3], [1, 2]], [[0, 2, 1], [3]], [[0, 2], [1, 3], [4]], [[0, 2], [1, 3, 4]], [[0, 2], [1, 4]],
            [[0, 2], [1, -1]], [[-4, 2], [1, 3]], [[0, 2], [1, 3], [-1]], [[0, 2], [1, 10 ** 59]],
            [[False, 2], [1, 3]], [[0, 2], [True, 3]], [(0, 2), (1, 3)], ([0, 2], [1, 3]), [[0, 2], (1, 3)],
            [0, 1, 2, 3], [[[0, 2]], [[1, 3]]], [[0, 2], [1, "3"]], [[0, 2], [1, None]], [[0, 2], 1, 3],
            [["0", "2"], ["1", "3"]], [[0, 2], [1, [3]]], [[0, 2], [1, 3], None], {0: [0, 2], 1: [1, 3]},
            [{0: 0, 2: 2}, [1, 3]], [], [[]], None, 0, 2, True, False, "", "02", (), boxes, [boxes], [boxes[:1]],
            [[0, 2], [1, boxes[0]]], [[0, 2] * 1000, [1, 3]],
        ]
        for thing in rows + odd_objects():
            with self.subTest(thing=thing):
                self.assertIs(shows_order_groups(boxes, thing), False)

    def test_any_object(self):
        for thing in odd_objects() + [[[0, 1]], [[1, 0]], [[0], [1]]]:
            with self.subTest(thing=thing):
                expected = thing in ([[0, 1]], [[1, 0]], [[0], [1]])
                self.assertIs(shows_order_groups([example()] * 2, thing), expected)
        for thing in odd_objects() + [[[0]], [[False]]]:
            with self.subTest(thing=thing):
                self.assertIs(shows_order_groups([example()], thing), thing == [[0]] and thing[0][0] is not False)

    def test_new_lists_each_time(self):
        boxes = stuck_example() * 3
        first, second = order_groups(boxes), order_groups(boxes)
        kept = [list(group) for group in first]
        self.assertEqual(first, second)
        lists = [first, second] + first + second
        self.assertEqual(len({id(one) for one in lists}), len(lists))
        self.assertTrue(all([type(one) is list for one in lists]))
        self.assertTrue(all([type(index) is int for group in first for index in group]))
        for one in lists:
            one.clear()
        self.assertEqual(order_groups(boxes), kept)


class NoBoxes(Base):
    """InvalidBoxes, for each function."""

    def refused(self, boxes):
        for name, more in CALLS:
            with self.subTest(name, boxes=boxes):
                self.exactly(InvalidBoxes, getattr(common, name), boxes, *more)

    def test_how_many(self):
        self.refused([])
        for many in (9, 10, 100):
            self.refused([example()] * many)
        for many in range(1, 9):
            for name, more in CALLS:
                getattr(common, name)([example()] * many, *more)

    def test_other_forms(self):
        one = example()
        rows = [
            (one,), (one, one), (), one, [[one]], [(one,)], {"a": one}, {}, None, 0, 1, True, "", "box", [None],
            [one, None], [None, one], [one, one, 3], [one, one.sets], [one.sets], one.sets, [one, [one]], [True],
            [one, True], [one, "box"], one.sets[0], [one, one.sets[0]],
        ]
        for boxes in rows:
            self.refused(boxes)

    def test_any_object(self):
        for thing in odd_objects():
            if isinstance(thing, list) and len(thing) == 1 and isinstance(thing[0], Box):
                continue
            self.refused(thing)

    def test_other_sizes(self):
        one, other = ValueSet(3, [(0, 1)]), ValueSet(4, [(0, 1)])
        rows = [
            [[one], [other]], [[one, one], [one, other]], [[one, other], [other, one]], [[one], [one, one]],
            [[one, one], [one]], [[one], [one], [other]], [[other], [one], [one]], [[one], [other], [one]],
            [[one] * 8, [one] * 7], [[one] * 8] * 7 + [[one] * 7 + [other]],
            [[ValueSet(3, [])], [ValueSet(4, [])]], [[ValueSet(1, [(0, 0)])], [one]],
        ]
        for sets in rows:
            self.refused([Box(one) for one in sets])

    def test_before_the_thing(self):
        for thing in odd_objects():
            self.exactly(InvalidBoxes, shows_stuck_set, [], thing)
            self.exactly(InvalidBoxes, shows_order_groups, (example(),), thing)


class HowTheyAreCalled(Base):
    """Point 2."""

    def test_by_name(self):
        boxes = stuck_example()
        self.assertIs(common_order(boxes=boxes), None)
        self.assertEqual(common_order(boxes=boxes[:1]), all_up([0, 1, 2]))
        self.assertEqual(stuck_set(boxes=boxes), stuck_set(boxes))
        self.assertIs(shows_stuck_set(thing=[(0, 0, [2]), (2, 1, [0])], boxes=boxes), True)
        self.assertEqual(sorted(order_groups(boxes=boxes)), [[0], [1]])
        self.assertIs(shows_order_groups(thing=[[1], [0]], boxes=boxes), True)
        self.exactly(InvalidBoxes, common_order, boxes=None)
        self.exactly(InvalidBoxes, shows_order_groups, thing=None, boxes=None)

    def test_nothing_is_modified(self):
        boxes = stuck_example() * 2
        kept = list(boxes)
        sets = [box.sets for box in boxes]
        reasons = [(0, 0, [2]), (2, 1, [0])]
        groups = [[2, 0], [3, 1]]
        for _ in range(2):
            common_order(boxes)
            stuck_set(boxes)
            shows_stuck_set(boxes, reasons)
            order_groups(boxes)
            shows_order_groups(boxes, groups)
            self.assertEqual([id(box) for box in boxes], [id(box) for box in kept])
            self.assertEqual([box.sets for box in boxes], sets)
            self.assertEqual(reasons, [(0, 0, [2]), (2, 1, [0])])
            self.assertEqual(groups, [[2, 0], [3, 1]])

    def test_equal_calls_return_equal_results(self):
        for boxes in chosen_lists(TEN, 3, 5, 20, 77):
            again = [Box(box.sets) for box in boxes]
            self.assertEqual(common_order(boxes), common_order(again))
            self.assertEqual(stuck_set(boxes), stuck_set(again))
            self.assertEqual(order_groups(boxes), order_groups(again))

    def test_they_are_defined_here(self):
        for name, _ in CALLS:
            self.assertEqual(getattr(common, name).__module__, common.__name__)


if __name__ == "__main__":
    unittest.main()
