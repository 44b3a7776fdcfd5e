import unittest
from itertools import combinations, product

from brute import (HUGE, Base, Chooser, all_boxes, all_orders, all_up, condition_of, example, great_boxes, holds,
                   kept_on, line_of, odd_objects, position, rank, side_of, some_condition, some_order, some_orders,
                   some_wish, spread, stretches_of, turned)
from scanranges import sorting
from scanranges.boxes import Box
from scanranges.diagrams import Diagram
from scanranges.errors import InvalidOrder, InvalidWish
from scanranges.sorting import box_sorted, is_sorted, shows_sorting_paper, sorting_paper
from scanranges.valuesets import ValueSet

NO_KEYS = ("in", 0, [])
SMALL = ([1], [4], [3, 3], [2, 4], [1, 3, 2], [3, 2, 3], [2, 2, 2, 2], [2, 1, 3, 2])


def some_wishes(order):
    """Wishes that begin as the order does, some with directions turned, some with columns twice, and others."""
    many = len(order)
    found = [[], order, turned(order), order[::-1], turned(order[::-1]), order[1:], order + order,
             order + turned(order)]
    for length in range(1, many + 1):
        front = order[:length]
        found.extend([front, turned(front), front + front[:1], front + turned(front[:1]), turned(front[:1]) + front,
                      front[:-1] + turned(front[-1:]), front[:-1] + turned(front[:-1]) + front[-1:]])
    found.extend([[(column, up)] for column in range(many) for up in (True, False)])
    return found


class PairByPair(Base):
    """Point 14: against all pairs of keys."""

    def check(self, diagram, kept, wish):
        told = (diagram.sizes, diagram.order, kept, wish)
        side = side_of(kept, wish)
        self.assertEqual(is_sorted(diagram, wish), side, told)
        paper = sorting_paper(diagram, wish)
        self.assertEqual(paper is None, side == "forwards", told)
        if paper is not None:
            self.assertIs(shows_sorting_paper(diagram, wish, paper), True, told)
            self.check_paper(kept, wish, paper)
        return side

    def check_paper(self, kept, wish, paper):
        self.assertEqual((type(paper), len(paper)), (tuple, 2))
        first, second = paper
        self.assertLess(kept.index(first), kept.index(second))
        self.assertGreater(rank(wish, first), rank(wish, second))

    def test_some_filters(self):
        choose = Chooser(1)
        sides = []
        for at in range(1500):
            sizes = choose.one(SMALL)
            order = some_order(choose, len(sizes))
            condition = some_condition(choose, sizes, 1 + at % 6)
            kept = kept_on(line_of(sizes, order), condition)
            sides.append(self.check(Diagram(sizes, order, condition), kept, some_wish(choose, order)))
        for side in ("forwards", "backwards", None):
            self.assertGreater(sides.count(side), 100)

    def test_wishes_that_have_to_do_with_the_order(self):
        choose = Chooser(2)
        for sizes in ([3], [2, 3], [3, 1, 2], [2, 2, 2]):
            for order in all_orders(len(sizes))[::2]:
                for sets in (1, 3, 5):
                    condition = some_condition(choose, sizes, sets)
                    kept = kept_on(line_of(sizes, order), condition)
                    for wish in some_wishes(order):
                        self.check(Diagram(sizes, order, condition), kept, wish)

    def test_each_filter_of_a_small_line(self):
        # All sets of keys of two columns of two values, with all wishes of up to two columns.
        keys = list(product(range(2), repeat=2))
        places = [(column, up) for column in (0, 1) for up in (True, False)]
        wishes = [[]] + [[one] for one in places] + [[one, other] for one in places for other in places]
        for order in all_orders(2):
            for bits in product((0, 1), repeat=4):
                diagram = Diagram([2, 2], order, NO_KEYS)
                for key, bit in zip(keys, bits):
                    if bit:
                        one = ("and", ("in", 0, [(key[0], key[0])]), ("in", 1, [(key[1], key[1])]))
                        diagram = diagram | Diagram([2, 2], order, one)
                kept = [key for key in line_of([2, 2], order) if key in diagram]
                for wish in wishes:
                    self.check(diagram, kept, wish)

    def test_each_filter_of_three_values_and_three(self):
        # What stands farther behind than the next value counts, too: 0,0 then 1,1 and 1,2 then 2,1.
        rows = [[value for value in range(3) if bits[value]] for bits in product((0, 1), repeat=3)]
        sides = []
        for parts in product(rows, repeat=3):
            condition = NO_KEYS
            for value, row in enumerate(parts):
                one = ("and", ("in", 0, [(value, value)]), ("in", 1, stretches_of(row)))
                condition = ("or", condition, one)
            for order in ([(0, True), (1, True)], [(0, False), (1, True)], [(1, False), (0, True)]):
                diagram = Diagram([3, 3], order, condition)
                kept = kept_on(line_of([3, 3], order), condition)
                for wish in ([(1, True)], [(0, False)], [(1, False), (0, True)], [(0, True), (1, True)]):
                    sides.append(self.check(diagram, kept, wish))
        for side in ("forwards", "backwards", None):
            self.assertGreater(sides.count(side), 300)

    def test_boxes(self):
        sides = []
        for sizes in ([4], [2, 3], [2, 2, 2]):
            for order in all_orders(len(sizes)):
                line = line_of(sizes, order)
                for box in all_boxes(sizes)[::5]:
                    kept = [key for key in line if key in box]
                    for wish in some_wishes(order)[::3]:
                        side = side_of(kept, wish)
                        self.assertEqual(box_sorted(box, order, wish), side, (box.sets, order, wish))
                        sides.append(side)
        for side in ("forwards", "backwards", None):
            self.assertGreater(sides.count(side), 100)


class FewKeys(Base):
    def filters(self, sizes, order):
        """Filters with no key, with one and with two, and their keys."""
        line = line_of(sizes, order)
        yield Diagram(sizes, order, NO_KEYS), []
        alone = {key: condition_of(Box([ValueSet(size, [(value, value)]) for size, value in zip(sizes, key)]))
                 for key in line}
        for key in line:
            yield Diagram(sizes, order, alone[key]), [key]
        for first, second in combinations(line, 2):
            yield Diagram(sizes, order, ("or", alone[first], alone[second])), [first, second]

    def test_none_one_and_two(self):
        for order in all_orders(2):
            for diagram, kept in self.filters([3, 2], order):
                for wish in ([], [(0, True)], [(0, False)], [(1, True)], [(1, False), (0, True)],
                             [(0, True), (0, False)],
                             [(0, False), (0, True), (1, True)], order, turned(order), turned(order[::-1])):
                    expected = side_of(kept, wish)
                    self.assertEqual(is_sorted(diagram, wish), expected)
                    self.assertIsNotNone(expected)
                    if len(kept) < 2 or not wish:
                        self.assertEqual(expected, "forwards")
                    paper = None if expected == "forwards" else (kept[0], kept[1])
                    self.assertEqual(sorting_paper(diagram, wish), paper)

    def test_forwards_where_both_hold(self):
        # All keys have the same value in the column of the wish, so any order of them is ascending by it.
        diagram = Diagram([3, 4], all_up([0, 1]), ("in", 0, [(1, 1)]))
        for wish in ([], [(0, True)], [(0, False)], [(0, False), (0, True)]):
            self.assertEqual(is_sorted(diagram, wish), "forwards")
            self.assertIsNone(sorting_paper(diagram, wish))
        self.assertEqual(is_sorted(diagram, [(0, False), (1, True)]), "forwards")
        self.assertEqual(is_sorted(diagram, [(0, False), (1, False)]), "backwards")


class GreatColumns(Base):
    def test_against_some_keys(self):
        # A side that is told holds for all keys that are tried; where none is told, the papers show why.
        choose = Chooser(3)
        sides = []
        for at in range(200):
            sizes = [choose.one((HUGE, 10 ** 9, HUGE, 7, 1)) for _ in range(1 + at % 8)]
            order = some_order(choose, len(sizes))
            condition = some_condition(choose, sizes, 1 + at % 6)
            diagram = Diagram(sizes, order, condition)
            wish = some_wish(choose, order)
            side = is_sorted(diagram, wish)
            sides.append(side)
            indices = {diagram.total * at // 17 for at in range(17)} | {at for at in range(3)} | {diagram.total - 1}
            keys = [diagram.nth_key(index) for index in sorted(indices) if 0 <= index < diagram.total]
            if side is not None:
                self.assertEqual(side_of(keys if side == "forwards" else keys[::-1], wish), "forwards")
            for wished, told in ((wish, "forwards"), (turned(wish), "backwards")):
                paper = sorting_paper(diagram, wished)
                if paper is not None:
                    self.assertIs(shows_sorting_paper(diagram, wished, paper), True)
                    first, second = paper
                    self.assertTrue(holds(condition, first) and holds(condition, second))
                    self.assertLess(position(sizes, order, first), position(sizes, order, second))
                    self.assertGreater(rank(wished, first), rank(wished, second))
                    self.assertNotEqual(side, told)
                elif side != "forwards":
                    self.assertEqual(side, told)
        for side in ("forwards", "backwards", None):
            self.assertGreater(sides.count(side), 15)

    def test_great_boxes(self):
        choose = Chooser(4)
        for box in great_boxes():
            for order in some_orders(len(box.sets)):
                diagram = Diagram(box.sizes, order, condition_of(box))
                for wish in [order, turned(order)] + [some_wish(choose, order) for _ in range(4)]:
                    self.assertEqual(box_sorted(box, order, wish), is_sorted(diagram, wish))
                self.assertEqual(box_sorted(box, order, order), "forwards")
                self.assertIn(box_sorted(box, order, turned(order)), ("backwards",) if box.total > 1 else ("forwards",))

    def test_known_ones(self):
        one, many, full = ValueSet(HUGE, [(5, 5)]), ValueSet(HUGE, spread(12, 1)), ValueSet(HUGE, [(0, HUGE - 1)])
        box = Box([one, many, full, one])
        order = all_up([0, 1, 2, 3])
        for wish, side in (([(1, True)], "forwards"), ([(1, False)], "backwards"), ([(2, True)], None),
                           ([(3, False), (1, True), (0, False)], "forwards"), ([(0, True), (2, True)], None),
                           ([(1, False), (3, True), (2, False)], "backwards"), ([(1, True), (2, False)], None),
                           ([(1, True), (1, False), (2, True)], "forwards"), ([(3, True)], "forwards")):
            self.assertEqual(box_sorted(box, order, wish), side, wish)
        self.assertEqual(box_sorted(Box([full] * 8), all_up(range(8)), all_up(range(8)) * 2), "forwards")
        self.assertIsNone(box_sorted(Box([full] * 8), all_up(range(8)), [(1, True)]))

    def test_empty_boxes(self):
        none, full = ValueSet(HUGE, []), ValueSet(HUGE, [(0, HUGE - 1)])
        for sets in ([none], [none, full], [full, none, full], [none] * 8):
            for order in some_orders(len(sets)):
                for wish in ([], order, turned(order), [(0, False)]):
                    self.assertEqual(box_sorted(Box(sets), order, wish), "forwards")


class Papers(Base):
    def setUp(self):
        self.diagram = Diagram([10, 7, 100], all_up([0, 1, 2]), condition_of(example()))
        self.wish = [(2, True)]

    def test_pairs_both_ways_round(self):
        first, second = (3, 0, 40), (3, 1, 20)
        self.assertIs(shows_sorting_paper(self.diagram, self.wish, (first, second)), True)
        self.assertIs(shows_sorting_paper(self.diagram, self.wish, (second, first)), False)
        self.assertIs(shows_sorting_paper(self.diagram, [(2, False)], (first, second)), False)
        self.assertIs(shows_sorting_paper(self.diagram, [(1, False)], (first, second)), True)
        self.assertIs(shows_sorting_paper(self.diagram, [(1, True)], (first, second)), False)
        self.assertIs(shows_sorting_paper(self.diagram, [], (first, second)), False)
        self.assertIs(shows_sorting_paper(self.diagram, self.wish, (first, first)), False)
        self.assertIs(shows_sorting_paper(self.diagram, self.wish, ((3, 0, 30), (3, 1, 30))), False)

    def test_all_pairs(self):
        choose = Chooser(5)
        shown = 0
        for at in range(60):
            sizes = choose.one(([3, 2], [2, 1, 3]))
            order = some_order(choose, len(sizes))
            condition = some_condition(choose, sizes, 1 + at % 4)
            diagram, wish = Diagram(sizes, order, condition), some_wish(choose, order)
            line = line_of(sizes, order)
            for first, second in product(line, repeat=2):
                expected = (holds(condition, first) and holds(condition, second)
                            and line.index(first) < line.index(second) and rank(wish, first) > rank(wish, second))
                self.assertIs(shows_sorting_paper(diagram, wish, (first, second)), expected)
                shown += expected
        self.assertGreater(shown, 100)

    def test_bent_at_one_place(self):
        first, second = (3, 0, 40), (3, 1, 20)
        rows = [
            [first, second], (first,), (first, second, second), (first, second, None), (first, None), (None, second),
            (list(first), second), (first, list(second)), [list(first), list(second)], (first, (3, 1)),
            ((3, 0), second),
            (first, (3, 1, 19)), ((3, 0, 50), second), ((4, 0, 40), second), ((2, 0, 40), second), (first, (3, 2, 20)),
            (first, (3, True, 20)), ((3, False, 40), second), (first, (3, 1, 20, 0)), (first, (3, 1, 100)),
            ((3, 0, 10 ** 59), second), (first, "key"), (first + second), ((first, second),), {"a": (first, second)},
            (first, (3, 1, -1)), (), None, 0, True, "", self.diagram, (self.diagram, second), (first, (3, 1, None)),
            {"a": first, "b": second},
        ]
        for thing in rows + odd_objects():
            with self.subTest(thing=thing):
                self.assertIs(shows_sorting_paper(self.diagram, self.wish, thing), False)

    def test_booleans_are_no_values(self):
        diagram = Diagram([2, 2], all_up([0, 1]), ("not", NO_KEYS))
        self.assertIs(shows_sorting_paper(diagram, [(0, False)], ((0, 1), (1, 0))), True)
        for thing in (((False, 1), (1, 0)), ((0, True), (1, 0)), ((0, 1), (True, 0)), ((0, 1), (1, False))):
            self.assertIs(shows_sorting_paper(diagram, [(0, False)], thing), False)

    def test_nothing_shows_it_where_the_line_is_right(self):
        for wish in ([], [(0, True)], [(0, False), (1, True)], all_up([0, 1, 2])):
            self.assertIsNone(sorting_paper(self.diagram, wish))
            line = [key for key in line_of([10, 7, 100], all_up([0, 1, 2])) if key in self.diagram]
            for pair in product(line[::17], repeat=2):
                self.assertIs(shows_sorting_paper(self.diagram, wish, pair), False)
            self.assertIs(shows_sorting_paper(self.diagram, wish, None), False)

    def test_equal_calls_return_equal_results(self):
        one, other = ("in", 0, [(1, 1), (3, 3)]), ("in", 1, [(0, 0)])
        pairs = [(("and", one, ("not", other)), ("not", ("or", other, ("not", one)))),
                 (("or", one, other), ("not", ("and", ("not", other), ("not", one)))), (one, ("and", one, one))]
        for order in all_orders(2):
            for first, second in pairs:
                mine, theirs = Diagram([5, 3], order, first), Diagram([5, 3], order, second)
                for wish in some_wishes(order):
                    self.assertEqual(sorting_paper(mine, wish), sorting_paper(theirs, list(wish)))
                    self.assertEqual(sorting_paper(mine, wish), sorting_paper(~~theirs, wish))
                    self.assertEqual(is_sorted(mine, wish), is_sorted(theirs, wish))


class WrongArguments(Base):
    BAD = [
        ((0, True),), (), (0, True), [(3, True)], [(-1, True)], [(0, True), (3, False)], [(10 ** 59, True)],
        [[0, True]],
        [(0, True), [1, True]], [(0,)], [(0, True, True)], [()], [(0, 1)], [(0, 0)], [(True, True)], [(False, True)],
        [(0, None)], [("0", True)], [(None, True)], [0], [True], [None], ["+0"], "+0", None, 0, True, {}, {0: True},
        [(0, True)] * 17, all_up([0, 1, 2]) * 6, [(0, "up")], [((0,), True)], [([0], True)], [(0, True), None],
        [[(0, True)]], [(True, 0)], example(), [example()], [(0, example())],
    ]

    def refused(self, wish):
        diagram, box, order = Diagram([10, 7, 100], all_up([0, 1, 2]), NO_KEYS), example(), all_up([0, 1, 2])
        with self.subTest(wish=wish):
            for some in (diagram, ~diagram):
                self.exactly(InvalidWish, is_sorted, some, wish)
                self.exactly(InvalidWish, sorting_paper, some, wish)
                self.exactly(InvalidWish, shows_sorting_paper, some, wish, None)
            self.exactly(InvalidWish, box_sorted, box, order, wish)
            self.exactly(InvalidWish, box_sorted, Box([ValueSet(10, []), ValueSet(7, []), ValueSet(100, [])]), order,
                         wish)

    def test_what_is_no_wish(self):
        for wish in self.BAD:
            self.refused(wish)

    def test_any_object(self):
        for thing in odd_objects():
            if thing != []:
                self.refused(thing)
            self.refused([(0, True), thing])
            self.refused([(thing, True)] if not isinstance(thing, int) or isinstance(thing, bool) else [(thing, 1)])

    def test_sixteen_items(self):
        diagram = Diagram([10, 7, 100], all_up([0, 1, 2]), condition_of(example()))
        wish = [(0, True)] * 8 + [(1, True), (1, False)] * 4
        self.assertEqual(len(wish), 16)
        self.assertEqual(is_sorted(diagram, wish), "forwards")
        self.assertIsNone(sorting_paper(diagram, wish))
        self.assertEqual(box_sorted(example(), all_up([0, 1, 2]), wish[8:] + wish[:8]), "forwards")
        self.assertEqual(is_sorted(diagram, [(0, False)] * 15 + [(1, False)]), "backwards")

    def test_columns_of_the_sizes(self):
        for many in range(1, 9):
            diagram = Diagram([2] * many, all_up(range(many)), ("not", NO_KEYS))
            self.assertEqual(is_sorted(diagram, [(many - 1, True)]), "forwards" if many == 1 else None)
            self.exactly(InvalidWish, is_sorted, diagram, [(many, True)])

    def test_the_order_comes_first(self):
        for order in odd_objects() + [[], all_up([0, 1]), tuple(all_up([0, 1, 2]))]:
            for wish in (None, [], [(0, True)]):
                self.exactly(InvalidOrder, box_sorted, example(), order, wish)


class HowTheyAreCalled(Base):
    """Point 2."""

    def test_by_name(self):
        diagram, wish = Diagram([10, 7, 100], all_up([0, 1, 2]), condition_of(example())), [(1, False)]
        self.assertEqual(is_sorted(wish=wish, diagram=diagram), "backwards")
        self.assertEqual(sorting_paper(wish=wish, diagram=diagram), sorting_paper(diagram, wish))
        self.assertIs(shows_sorting_paper(thing=((3, 0, 40), (3, 1, 20)), wish=wish, diagram=diagram), True)
        self.assertEqual(box_sorted(wish=wish, order=all_up([0, 1, 2]), box=example()), "backwards")
        self.exactly(InvalidWish, is_sorted, wish=None, diagram=diagram)
        self.exactly(InvalidOrder, box_sorted, wish=None, order=None, box=example())

    def test_nothing_is_modified(self):
        diagram, wish, order = Diagram([3, 4], all_up([1, 0]), ("not", NO_KEYS)), [(1, False),
                                                                                   (0, True)], all_up([1, 0])
        box = Box([ValueSet(3, [(0, 2)]), ValueSet(4, [(0, 3)])])
        for _ in range(2):
            is_sorted(diagram, wish)
            sorting_paper(diagram, wish)
            box_sorted(box, order, wish)
            self.assertEqual((wish, order), ([(1, False), (0, True)], all_up([1, 0])))
            self.assertEqual(diagram, Diagram([3, 4], all_up([1, 0]), ("not", NO_KEYS)))

    def test_they_are_defined_here(self):
        for one in (is_sorted, sorting_paper, shows_sorting_paper, box_sorted):
            self.assertEqual(one.__module__, sorting.__name__)


if __name__ == "__main__":
    unittest.main()
