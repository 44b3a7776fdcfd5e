import unittest
from itertools import product

from brute import (HUGE, Base, Chooser, all_up, condition_of, example, holds, kept_on, line_of, odd_objects, rank,
                   some_condition, some_order, some_wish, turned)
from scanranges import stores
from scanranges.diagrams import Diagram
from scanranges.errors import (AlreadyThere, InvalidCondition, InvalidKey, InvalidNumber, InvalidOrder, InvalidSizes,
                               InvalidWish, NotThere, NothingToUndo)
from scanranges.sorting import is_sorted
from scanranges.stores import Store
from scanranges.tables import first_answers, matches, needed_answers

NO_KEYS = ("in", 0, [])
SIXTY = 10 ** 60 - 1
SMALL = ([4], [3, 3], [2, 4], [1, 3, 2], [3, 2, 3], [2, 2, 2, 2])
TABLE = [(3, 0, 21), (3, 1, 60), (3, 5, 19), (3, 6, 30), (4, 0, 0)]


def filled(sizes, orders, keys):
    store = Store(sizes, orders)
    for key in keys:
        store.put(key)
    return store


def example_store(orders=None):
    return filled([10, 7, 100], orders or [all_up([0, 1, 2]), all_up([2, 0, 1])], TABLE)


class PlainList:
    """The same as a store, as a plain list of what the rows were before each call and behind it."""

    def __init__(self, sizes, order):
        self.line = line_of(sizes, order)
        self.states = [[]]
        self.marks = []

    def rows(self):
        return [key for key in self.line if key in self.states[-1]]

    def put(self, key):
        self.states.append(self.states[-1] + [key])

    def take(self, key):
        self.states.append([row for row in self.states[-1] if row != key])

    def undo(self):
        self.states.pop()
        self.marks = [mark for mark in self.marks if mark <= len(self.states)]

    def mark(self):
        self.marks.append(len(self.states))
        return len(self.marks) - 1

    def undo_to(self, index):
        self.states = self.states[:self.marks[index]]
        self.marks = self.marks[:index + 1]

    def twin(self):
        found = PlainList([], [])
        found.line, found.states, found.marks = self.line, list(self.states), list(self.marks)
        return found


class BesideAPlainList(Base):
    """Point 15: put, take, undo, mark, undo_to and twin, over many calls."""

    def check(self, store, plain):
        rows = plain.rows()
        self.assertEqual(store.listed(), rows)
        self.assertEqual(len(store), len(rows))

    def step(self, choose, store, plain):
        word = choose.one(("put", "put", "put", "take", "take", "undo", "mark", "undo_to"))
        key = choose.one(plain.line)
        if word == "put":
            if key in plain.rows():
                self.exactly(AlreadyThere, store.put, key)
            else:
                self.assertIsNone(store.put(key))
                plain.put(key)
        elif word == "take":
            if key not in plain.rows():
                self.exactly(NotThere, store.take, key)
            else:
                self.assertIsNone(store.take(key))
                plain.take(key)
        elif word == "undo":
            if len(plain.states) == 1:
                self.exactly(NothingToUndo, store.undo)
            else:
                self.assertIsNone(store.undo())
                plain.undo()
        elif word == "mark":
            self.assertEqual(store.mark(), plain.mark())
        else:
            index = choose.one(range(len(plain.marks) + 2))
            if index >= len(plain.marks):
                self.exactly(InvalidNumber, store.undo_to, index)
            else:
                self.assertIsNone(store.undo_to(index))
                plain.undo_to(index)
        self.check(store, plain)

    def test_many_calls(self):
        choose = Chooser(1)
        for at in range(40):
            sizes = choose.one(SMALL)
            orders = [some_order(choose, len(sizes)) for _ in range(1 + at % 6)]
            store, plain = Store(sizes, orders), PlainList(sizes, orders[0])
            self.check(store, plain)
            for _ in range(140):
                self.step(choose, store, plain)

    def test_twins_go_their_own_way(self):
        choose = Chooser(2)
        for at in range(25):
            sizes = choose.one(SMALL)
            order = some_order(choose, len(sizes))
            pairs = [(Store(sizes, [order]), PlainList(sizes, order))]
            for _ in range(120):
                at = choose.one(range(len(pairs)))
                if choose.one((True,) + (False,) * 30):
                    pairs.append((pairs[at][0].twin(), pairs[at][1].twin()))
                self.step(choose, *pairs[at])
            for store, plain in pairs:
                self.check(store, plain)
                # What each can undo is its own, too.
                for index in range(len(plain.marks) - 1, -1, -1):
                    store.undo_to(index)
                    plain.undo_to(index)
                    self.check(store, plain)
                while len(plain.states) > 1:
                    store.undo()
                    plain.undo()
                    self.check(store, plain)
                self.exactly(NothingToUndo, store.undo)
                self.assertEqual(store.mark(), len(plain.marks))

    def test_calls_that_raise_change_nothing(self):
        store = Store([3, 2], [all_up([0, 1])])
        store.put((1, 1))
        store.mark()
        store.put((0, 1))
        store.mark()
        store.take((1, 1))
        for call, error in ((lambda: store.put((0, 1)), AlreadyThere), (lambda: store.put((3, 0)), InvalidKey),
                            (lambda: store.take((1, 1)), NotThere), (lambda: store.take((0, 2)), InvalidKey),
                            (lambda: store.undo_to(2), InvalidNumber), (lambda: store.undo_to(-1), InvalidNumber),
                            (lambda: store.undo_to(True), InvalidNumber),
                            (lambda: store.costs(None, [], 1), InvalidCondition),
                            (lambda: store.answer(NO_KEYS, None, 1), InvalidWish)):
            self.exactly(error, call)
            self.assertEqual((store.listed(), len(store)), ([(0, 1)], 1))
        store.undo()
        self.assertEqual(store.listed(), [(0, 1), (1, 1)])
        self.assertEqual(store.mark(), 2)
        store.undo_to(0)
        self.assertEqual(store.listed(), [(1, 1)])
        self.assertEqual(store.mark(), 1)
        store.undo()
        self.assertEqual(store.listed(), [])
        self.exactly(NothingToUndo, store.undo)
        self.exactly(InvalidNumber, store.undo_to, 0)
        self.assertEqual(store.mark(), 0)


class MarksAndUndoing(Base):
    def test_undo_removes_the_marks_behind_the_undone_call(self):
        store = Store([9], [all_up([0])])
        self.assertEqual((store.mark(), store.mark()), (0, 1))
        store.put((1,))
        self.assertEqual((store.mark(), store.mark()), (2, 3))
        store.put((2,))
        self.assertEqual(store.mark(), 4)
        store.undo()
        self.exactly(InvalidNumber, store.undo_to, 4)
        self.assertEqual(store.mark(), 4)
        store.undo()
        for index in (2, 3, 4):
            self.exactly(InvalidNumber, store.undo_to, index)
        self.exactly(NothingToUndo, store.undo)
        store.undo_to(1)
        self.assertEqual(store.mark(), 2)

    def test_an_undo_that_raises_leaves_the_marks(self):
        store = Store([9], [all_up([0])])
        self.assertEqual((store.mark(), store.mark()), (0, 1))
        self.exactly(NothingToUndo, store.undo)
        self.assertEqual(store.mark(), 2)

    def test_undo_to_keeps_its_mark_and_is_not_undone(self):
        store = Store([9], [all_up([0])])
        store.put((1,))
        store.mark()
        store.put((2,))
        store.mark()
        store.take((1,))
        store.mark()
        store.undo_to(0)
        self.assertEqual(store.listed(), [(1,)])
        self.exactly(InvalidNumber, store.undo_to, 1)
        store.undo_to(0)
        self.assertEqual(store.listed(), [(1,)])
        store.put((3,))
        store.undo_to(0)
        self.assertEqual(store.listed(), [(1,)])
        self.assertEqual(store.mark(), 1)
        store.undo()
        self.assertEqual(store.listed(), [])
        self.exactly(InvalidNumber, store.undo_to, 0)
        self.exactly(NothingToUndo, store.undo)

    def test_a_take_is_undone(self):
        store = filled([9], [all_up([0])], [(1,), (5,), (3,)])
        store.take((5,))
        self.assertEqual(store.listed(), [(1,), (3,)])
        store.undo()
        self.assertEqual(store.listed(), [(1,), (3,), (5,)])
        store.undo()
        self.assertEqual(store.listed(), [(1,), (5,)])

    def test_what_is_no_mark(self):
        store = Store([9], [all_up([0])])
        for index in (0, -1, 1, SIXTY):
            self.exactly(InvalidNumber, store.undo_to, index)
        store.mark()
        store.mark()
        for index in (2, -1, -2, 3, SIXTY, -SIXTY, True, False):
            self.exactly(InvalidNumber, store.undo_to, index)
        self.assertEqual(store.mark(), 2)


class Rows(Base):
    def test_listed_by_the_first_order(self):
        choose = Chooser(3)
        for _ in range(40):
            sizes = choose.one(SMALL)
            orders = [some_order(choose, len(sizes)) for _ in range(3)]
            line = line_of(sizes, orders[0])
            keys = line[1::2][::-1] + line[2::4]
            store = filled(sizes, orders, keys)
            self.assertEqual(store.listed(), [key for key in line if key in keys])
            self.assertEqual(len(store), len(keys))

    def test_no_rows(self):
        store = Store([10, 7], [all_up([1, 0])])
        self.assertEqual((store.listed(), len(store)), ([], 0))
        self.assertEqual(store.costs(("in", 0, [(1, 2)]), [], None), [("forwards", 1, 7)])
        self.assertEqual(store.answer(NO_KEYS, [], None), [])

    def test_what_is_no_key(self):
        store = example_store()
        bad = [
            (), (3,), (3, 0), (3, 0, 21, 0), (-1, 0, 0), (10, 0, 0), (0, 7, 0), (0, 0, 100), (True, 0, 0),
            (0, False, 0),
            (0, 0, True), [3, 0, 21], [(3, 0, 21)], ((3, 0, 21),), ("3", "0", "21"), (0, 0, None), (0, (0,), 0), None,
            0,
            True, "3 0 21", {}, (0, 0, 10 ** 59),
        ]
        for key in bad + [one for one in odd_objects()]:
            with self.subTest(key=key):
                self.exactly(InvalidKey, store.put, key)
                self.exactly(InvalidKey, store.take, key)
        self.assertEqual(store.listed(), TABLE)

    def test_invalid_keys_come_before_what_is_there(self):
        store = Store([2, 2], [all_up([0, 1])])
        store.put((1, 0))
        for key in ((True, 0), (1, False), [1, 0]):
            self.exactly(InvalidKey, store.put, key)
            self.exactly(InvalidKey, store.take, key)
        self.exactly(AlreadyThere, store.put, (1, 0))
        self.exactly(NotThere, store.take, (0, 0))
        store.take((1, 0))
        self.exactly(NotThere, store.take, (1, 0))

    def test_great_values(self):
        store = Store([HUGE, HUGE], [[(1, False), (0, True)]])
        keys = [(0, 0), (HUGE - 1, HUGE - 1), (5, 10 ** 20), (HUGE - 1, 0)]
        for key in keys:
            store.put(key)
        self.assertEqual(store.listed(), [(HUGE - 1, HUGE - 1), (5, 10 ** 20), (0, 0), (HUGE - 1, 0)])
        self.exactly(InvalidKey, store.put, (HUGE, 0))

    def test_more_rows_than_a_table_may_have(self):
        store = filled([500], [all_up([0])], [(value,) for value in range(450)])
        self.assertEqual(store.costs(("in", 0, [(0, 499)]), [], None), [("forwards", 451, 451)])
        self.assertEqual(store.cheapest(("in", 0, [(0, 499)]), [], 2), 0)
        self.assertEqual(len(store.answer(("in", 0, [(0, 499)]), [], None)), 450)


class Costs(Base):
    """Point 15: costs and cheapest, by the functions for each order."""

    def expected(self, sizes, orders, rows, condition, wish, many):
        found = []
        for order in orders:
            diagram = Diagram(sizes, order, condition)
            side = is_sorted(diagram, wish)
            fitting = matches(diagram, rows)
            if many == 0:
                found.append((side, 0, 0))
                continue
            if side is None:
                asked, learnt = needed_answers(diagram, rows), len(fitting)
            else:
                line = order if side == "forwards" else turned(order)
                first = line_of(sizes, line)[0]
                asked = first_answers(Diagram(sizes, line, condition), rows, first, many)
                learnt = len(fitting) if many is None else min(many, len(fitting))
            found.append((side, len(asked), learnt + diagram.range_total))
        return found

    def test_against_the_functions(self):
        choose = Chooser(4)
        sides = []
        for at in range(250):
            sizes = choose.one(SMALL)
            orders = [some_order(choose, len(sizes)) for _ in range(1 + at % 6)]
            line = line_of(sizes, orders[0])
            rows = [key for key in line if choose.one((True, False, False))]
            store = filled(sizes, orders, rows)
            condition = some_condition(choose, sizes, 1 + at % 5)
            for wish in ([], some_wish(choose, orders[0]), some_wish(choose, orders[-1]), turned(orders[0])):
                fitting = len(kept_on(rows, condition))
                for many in {0, 1, fitting, fitting + 1, 2, None}:
                    costs = store.costs(condition, wish, many)
                    self.assertEqual(costs, self.expected(sizes, orders, rows, condition, wish, many))
                    asked = [one for _, one, _ in costs]
                    self.assertEqual(store.cheapest(condition, wish, many), asked.index(min(asked)))
                    self.assertTrue(all([one <= bound for _, one, bound in costs]))
                    sides.extend([side for side, _, _ in costs])
            self.assertEqual(store.listed(), [key for key in line if key in rows])
        for side in ("forwards", "backwards", None):
            self.assertGreater(sides.count(side), 300)

    def test_the_example(self):
        store = example_store()
        condition = condition_of(example())
        self.assertEqual(store.costs(condition, [], None), [("forwards", 4, 6), ("forwards", 3, 62)])
        self.assertEqual(store.cheapest(condition, [], None), 1)
        self.assertEqual(store.costs(condition, [(1, True)], 1), [("forwards", 1, 5), (None, 3, 62)])
        self.assertEqual(store.cheapest(condition, [(1, True)], 1), 0)
        self.assertEqual(store.costs(condition, [(1, False)], 1), [("backwards", 1, 5), (None, 3, 62)])
        self.assertEqual(store.costs(condition, [(2, True)], 1), [(None, 4, 6), ("forwards", 1, 61)])
        self.assertEqual(store.costs(condition, [(2, False), (1, False)], 2), [(None, 4, 6), ("backwards", 2, 62)])
        self.assertEqual(store.costs(condition, [(2, True)], 0), [(None, 0, 0), ("forwards", 0, 0)])
        self.assertEqual(store.cheapest(condition, [(2, True)], 0), 0)

    def test_backwards_goes_along_the_turned_line(self):
        store = filled([10], [all_up([0])], [(1,), (2,), (8,)])
        condition = ("in", 0, [(0, 3), (7, 9)])
        self.assertEqual(store.costs(condition, [(0, True)], 1), [("forwards", 1, 3)])
        self.assertEqual(store.costs(condition, [(0, False)], 1), [("backwards", 1, 3)])
        store.take((8,))
        self.assertEqual(store.costs(condition, [(0, False)], 1), [("backwards", 1, 3)])
        self.assertEqual(store.costs(condition, [(0, False)], None), [("backwards", 3, 4)])
        store.put((5,))
        self.assertEqual(store.costs(condition, [(0, False)], 1), [("backwards", 2, 3)])
        self.assertEqual(store.costs(condition, [(0, True)], 1), [("forwards", 1, 3)])
        self.assertEqual(store.costs(condition, [(0, True)], 3), [("forwards", 4, 4)])

    def test_of_several_the_first(self):
        order = all_up([0, 1, 2])
        store = example_store([order, order, all_up([2, 0, 1]), all_up([2, 0, 1])])
        self.assertEqual(store.cheapest(condition_of(example()), [], None), 2)
        self.assertEqual(store.cheapest(NO_KEYS, [], None), 0)
        self.assertEqual(store.cheapest(condition_of(example()), [], 0), 0)
        self.assertEqual(example_store([order] * 6).cheapest(condition_of(example()), [], None), 0)

    def test_great_columns(self):
        sizes = [HUGE, 7, HUGE]
        orders = [all_up([0, 1, 2]), [(2, False), (1, True), (0, True)]]
        low, high = 10 ** 9, 10 ** 25
        condition = ("and", ("in", 0, [(low, high)]), ("not", ("in", 2, [(3, 5)])))
        beside = [(low - 1, 0, 0), (low, 0, 0), (low, 6, 3), (low, 6, 6), (high, 1, 5), (high, 1, 2), (high + 1, 0, 0)]
        store = filled(sizes, orders, beside)
        inside = [key for key in beside if holds(condition, key)]
        self.assertEqual(inside, [(low, 0, 0), (low, 6, 6), (high, 1, 2)])
        self.assertEqual(store.answer(condition, [(0, False), (1, True)], None),
                         [(high, 1, 2), (low, 0, 0), (low, 6, 6)])
        for wish in ([], [(0, True)], [(2, True)], [(2, False)]):
            for many in (0, 1, 2, 3, 4, None):
                costs = store.costs(condition, wish, many)
                for index, order in enumerate(orders):
                    diagram = Diagram(sizes, order, condition)
                    self.assertEqual(costs[index][0], is_sorted(diagram, wish))
                    if many is None:
                        line = Diagram(sizes, turned(order), condition) if costs[index][0] == "backwards" else diagram
                        self.assertEqual(costs[index][1:], (len(needed_answers(line, beside)), 3 + diagram.range_total))
                    self.assertLessEqual(costs[index][1], costs[index][2])

    def test_rows_beside_the_borders_of_a_set(self):
        condition = ("in", 0, [(3, 5), (9, 12)])
        for values in product((2, 3, 5, 6), (8, 9, 12, 13)):
            store = filled([20], [all_up([0]), [(0, False)]], [(value,) for value in values])
            inside = [(value,) for value in values if 3 <= value <= 5 or 9 <= value <= 12]
            self.assertEqual(store.answer(condition, [(0, True)], None), inside)
            costs = store.costs(condition, [], None)
            for index, order in enumerate((all_up([0]), [(0, False)])):
                diagram = Diagram([20], order, condition)
                self.assertEqual(costs[index], ("forwards", len(needed_answers(diagram, store.listed())),
                                                len(inside) + 2))


class Answers(Base):
    def fits(self, rows, condition, wish, many, thing):
        """What point 15 says of an answer, word by word, of a list of keys."""
        fitting = kept_on(rows, condition)
        wanted = len(fitting) if many is None else min(many, len(fitting))
        if len(thing) != wanted or len(set(thing)) != wanted or not all([key in fitting for key in thing]):
            return False
        ranks = [rank(wish, key) for key in thing]
        if any([first > second for at, first in enumerate(ranks) for second in ranks[at:]]):
            return False
        others = [rank(wish, key) for key in fitting if key not in thing]
        return not any([other < one for other in others for one in ranks])

    def test_against_the_definition(self):
        choose = Chooser(5)
        shown = []
        for at in range(250):
            sizes = choose.one(SMALL)
            orders = [some_order(choose, len(sizes)) for _ in range(1 + at % 2)]
            rows = [key for key in line_of(sizes, orders[0]) if choose.one((True, False))]
            store = filled(sizes, orders, rows[::2] + rows[1::2])
            condition, wish = some_condition(choose, sizes, 1 + at % 4), some_wish(choose, orders[0])
            for many in (0, 1, 2, len(kept_on(rows, condition)), len(rows) + 1, None):
                found = store.answer(condition, wish, many)
                self.assertTrue(self.fits(rows, condition, wish, many, found))
                self.assertIs(store.shows_answer(condition, wish, many, found), True)
                for thing in self.others(choose, found, rows):
                    expected = self.fits(rows, condition, wish, many, thing)
                    self.assertIs(store.shows_answer(condition, wish, many, thing), expected)
                    shown.append(expected)
        self.assertGreater(min(shown.count(True), shown.count(False)), 300)

    def others(self, choose, found, rows):
        yield found[::-1]
        yield found[:-1]
        yield found + found[:1]
        if rows:
            yield found + [choose.one(rows)]
        if found and rows:
            at = choose.one(range(len(found)))
            yield found[:at] + [choose.one(rows)] + found[at + 1:]
        if len(found) > 1:
            at = choose.one(range(len(found) - 1))
            yield found[:at] + [found[at + 1], found[at]] + found[at + 2:]

    def test_ties(self):
        store = filled([3, 4], [all_up([0, 1])], [(0, 2), (1, 2), (2, 2), (0, 1), (1, 3)])
        every = ("not", NO_KEYS)
        self.assertEqual(store.answer(every, [(1, True)], 1), [(0, 1)])
        self.assertEqual(store.answer(every, [(1, True)], 2)[0], (0, 1))
        for second in ((0, 2), (1, 2), (2, 2)):
            self.assertIs(store.shows_answer(every, [(1, True)], 2, [(0, 1), second]), True)
            self.assertIs(store.shows_answer(every, [(1, True)], 2, [second, (0, 1)]), False)
        for thing in ([(0, 1), (1, 3)], [(0, 2), (1, 2)], [(0, 1), (0, 1)], [(0, 1), (2, 1)], [(0, 1)],
                      [(0, 1), (0, 2), (1, 2)], [(0, 1), (0, 3)]):
            self.assertIs(store.shows_answer(every, [(1, True)], 2, thing), False)
        self.assertIs(store.shows_answer(every, [], 2, [(1, 3), (0, 1)]), True)
        self.assertIs(store.shows_answer(every, [], None, [(1, 3), (0, 1), (2, 2), (1, 2), (0, 2)]), True)
        self.assertIs(store.shows_answer(every, [], None, [(1, 3), (0, 1), (2, 2), (1, 2)]), False)

    def test_wishes_that_name_a_column_twice(self):
        store = filled([3, 4], [all_up([0, 1])], [(0, 2), (1, 2), (2, 1)])
        every = ("not", NO_KEYS)
        self.assertEqual(store.answer(every, [(0, False), (0, True), (1, True)], None), [(2, 1), (1, 2), (0, 2)])
        self.assertEqual(store.answer(every, [(1, True), (1, False), (0, False)], 2), [(2, 1), (1, 2)])

    def test_other_stores_with_the_same_rows(self):
        order = all_up([1, 0])
        one, other = filled([3, 4], [order], [(0, 2), (1, 2), (2, 2)]), filled([3, 4], [order],
                                                                               [(2, 2), (0, 2), (1, 2)])
        other.put((0, 0))
        other.undo()
        for wish in ([], [(1, True)], [(0, False)]):
            for many in (1, 2, None):
                self.assertEqual(one.answer(("in", 1, [(2, 2)]), wish, many),
                                 other.answer(("in", 1, [(2, 2)]), wish, many))
                self.assertEqual(one.answer(("in", 1, [(2, 2)]), wish, many),
                                 one.answer(("not", ("in", 1, [(0, 1), (3, 3)])), wish, many))

    def test_what_is_no_answer(self):
        store = example_store()
        condition, wish = condition_of(example()), [(1, True)]
        good = [(3, 0, 21), (3, 6, 30)]
        self.assertIs(store.shows_answer(condition, wish, None, good), True)
        bad = [
            tuple(good), [list(one) for one in good], good[::-1], good[:1], good + [(3, 1, 60)], good + good, [good],
            [],
            [(3, 0, 21), (3, 1, 60)], [(3, 0, 21), (3, 6, 31)], [(3, False, 21), (3, 6, 30)], [(3, 0, 21), None],
            [(3, 0, 21), (3, 6)], [(3, 0, 21), [3, 6, 30]], {"a": good}, None, 0, True, "", (), store, [store],
            [(3, 0, 21), (3, 6, 10 ** 59)], [(3, 0, 21), (3, 6, 30), None], [(3, 0, 21), "key"],
        ]
        for thing in bad + odd_objects():
            with self.subTest(thing=thing):
                self.assertIs(store.shows_answer(condition, wish, None, thing), False)
        for thing in odd_objects():
            self.assertIs(store.shows_answer(condition, wish, 0, thing), thing == [])
            self.assertIs(store.shows_answer(NO_KEYS, [], None, thing), thing == [])

    def test_booleans_are_no_values(self):
        store = filled([2, 2], [all_up([0, 1])], [(0, 1), (1, 0)])
        every = ("not", NO_KEYS)
        self.assertIs(store.shows_answer(every, [], None, [(0, 1), (1, 0)]), True)
        for thing in ([(False, 1), (1, 0)], [(0, True), (1, 0)], [(0, 1), (1, False)], [(0, 1), (True, 0)]):
            self.assertIs(store.shows_answer(every, [], None, thing), False)


class WrongArguments(Base):
    def test_sizes(self):
        order = all_up([0])
        for sizes in ([], [0], [HUGE + 1], [5] * 9, (5,), [True], [None], ["5"], {}, None, 5, "", [[5]], [5, -1]):
            self.exactly(InvalidSizes, Store, sizes, [order])
            self.exactly(InvalidSizes, Store, sizes, None)
        for thing in odd_objects():
            if thing not in ([1, 2], ):
                self.exactly(InvalidSizes, Store, thing, [order])
        self.assertEqual(len(Store([HUGE] * 8, [all_up(range(8))])), 0)

    def test_orders(self):
        good = all_up([1, 0])
        rows = [
            [], [good] * 7, (good,), [tuple(good)], good, [[]], [good, []], [good, all_up([0])], [all_up([0, 1, 2])],
            [good, all_up([1, 2])], [good, all_up([1, 1])], [good, None], [None], None, 0, True, "+1 +0", {},
            {"a": good},
            [[(1, 1), (0, True)]], [[(True, True), (0, True)]], [[[1, True], [0, True]]], [good, good, good, 3],
            [[good]],
            [good] * 8, [good] * 6 + [None],
        ]
        for orders in rows + odd_objects():
            with self.subTest(orders=orders):
                self.exactly(InvalidOrder, Store, [10, 7], orders)
        for many in range(1, 7):
            self.assertEqual(len(Store([10, 7], [good] * many).costs(NO_KEYS, [], None)), many)

    def test_conditions_wishes_and_numbers(self):
        store = example_store()
        calls = (lambda *rest: store.costs(*rest), lambda *rest: store.cheapest(*rest),
                 lambda *rest: store.answer(*rest),
                 lambda *rest: store.shows_answer(*rest, []))
        bad_conditions = [None, (), ("in", 3, []), ("in", 1, [(0, 7)]), ("in", True, []), ["in", 0, []], ("not",),
                          "0:-"]
        bad_wishes = [None, (), [(3, True)], [(0, 1)], [(0, True)] * 17, [[0, True]], ((0, True),), [(False, True)]]
        bad_numbers = [-1, -SIXTY, True, False, "1", [], (), [1], {}, store]
        good, wish = condition_of(example()), [(0, True)]
        for call in calls:
            for condition in bad_conditions:
                for some in (wish, None):
                    for many in (1, -1):
                        self.exactly(InvalidCondition, call, condition, some, many)
            for some in bad_wishes:
                for many in (1, 0, None, -1, True):
                    self.exactly(InvalidWish, call, good, some, many)
            for many in bad_numbers:
                self.exactly(InvalidNumber, call, good, wish, many)
                self.exactly(InvalidNumber, call, NO_KEYS, [], many)
            for thing in odd_objects():
                if thing != ("in", 0, []):
                    self.exactly(InvalidCondition, call, thing, wish, 1)
                if thing != []:
                    self.exactly(InvalidWish, call, good, thing, 1)
                if thing is not None and (isinstance(thing, bool) or not isinstance(thing, int) or thing < 0):
                    self.exactly(InvalidNumber, call, good, wish, thing)
        self.assertEqual(store.listed(), TABLE)


class HowTheyAreCalled(Base):
    """Point 2."""

    def test_by_name(self):
        store = Store(orders=[all_up([0, 1, 2])], sizes=[10, 7, 100])
        condition = condition_of(example())
        self.assertIsNone(store.put(key=(3, 0, 21)))
        self.assertIsNone(store.put(key=(3, 6, 30)))
        self.assertIsNone(store.take(key=(3, 6, 30)))
        self.assertEqual(store.costs(many=None, wish=[], condition=condition), [("forwards", 2, 5)])
        self.assertEqual(store.cheapest(many=None, wish=[], condition=condition), 0)
        self.assertEqual(store.answer(many=None, wish=[], condition=condition), [(3, 0, 21)])
        self.assertIs(store.shows_answer(thing=[], many=None, wish=[], condition=condition), False)
        self.assertEqual(store.mark(), 0)
        self.assertIsNone(store.undo_to(index=0))
        self.exactly(InvalidNumber, store.undo_to, index=1)

    def test_lists_that_are_passed_stay_and_may_be_changed_later(self):
        sizes, orders = [10, 7], [[(1, False), (0, True)], all_up([0, 1])]
        store = filled(sizes, orders, [(1, 2), (3, 0), (2, 6)])
        twin = store.twin()
        self.assertEqual((sizes, orders), ([10, 7], [[(1, False), (0, True)], all_up([0, 1])]))
        condition, wish = ("in", 0, [(1, 2)]), [(0, False)]
        costs = store.costs(condition, wish, 1)
        found = store.answer(condition, wish, 1)
        self.assertEqual((condition, wish), (("in", 0, [(1, 2)]), [(0, False)]))
        sizes[0] = 1
        orders[0].reverse()
        orders.append(None)
        wish.append((1, True))
        for one in (store, twin):
            self.assertEqual(one.listed(), [(2, 6), (1, 2), (3, 0)])
            self.assertEqual(one.costs(condition, [(0, False)], 1), costs)
            self.assertEqual(one.answer(condition, [(0, False)], 1), found)
            one.put((9, 6))
            one.undo()

    def test_new_lists_each_time(self):
        store = example_store()
        calls = (store.listed, lambda: store.costs(NO_KEYS, [], None),
                 lambda: store.answer(condition_of(example()), [], None), lambda: store.answer(NO_KEYS, [], 0))
        for call in calls:
            first = call()
            kept = list(first)
            self.assertIs(type(first), list)
            self.assertIsNot(call(), first)
            first.append(None)
            self.assertEqual(call(), kept)
        self.assertEqual(store.listed(), TABLE)

    def test_kinds_of_values(self):
        store = example_store()
        for one in store.costs(condition_of(example()), [], None):
            self.assertEqual([type(one)] + [type(part) for part in one], [tuple, str, int, int])
        self.assertEqual((type(store.cheapest(NO_KEYS, [], 1)), type(store.mark()), type(len(store))), (int, int, int))

    def test_compared_by_identity(self):
        one, other = example_store(), example_store()
        self.assertIs(one == other, False)
        self.assertIs(one == one, True)
        self.assertIs(one == one.twin(), False)
        self.assertEqual({one: 1}[one], 1)

    def test_a_twin_is_a_store(self):
        store = example_store()
        twin = store.twin()
        self.assertIs(type(twin), Store)
        twin.put((0, 0, 0))
        self.assertEqual((store.listed(), twin.listed()), (TABLE, [(0, 0, 0)] + TABLE))
        store.undo()
        self.assertEqual((store.listed(), twin.listed()), (TABLE[:-1], [(0, 0, 0)] + TABLE))
        twin.undo()
        twin.undo()
        self.assertEqual(twin.listed(), TABLE[:-1])

    def test_where_it_is_defined(self):
        self.assertEqual(Store.__module__, stores.__name__)
        for name in ("put", "take", "listed", "__len__", "costs", "cheapest", "answer", "shows_answer", "undo", "mark",
                     "undo_to", "twin"):
            self.assertIn(name, vars(Store))


if __name__ == "__main__":
    unittest.main()
