"""Which sizes, orders and conditions a diagram takes."""

import unittest

from brute import HUGE, ONE, Base, all_up, deep, example, nested, odd_objects, spread, wide
from scanranges.boxes import Box
from scanranges.diagrams import Diagram
from scanranges.errors import InvalidCondition, InvalidOrder, InvalidSizes
from scanranges.valuesets import ValueSet

SIZES = [10, 7, 100]
ORDER = all_up([0, 1, 2])


def balanced(levels):
    return ONE if levels == 1 else ("or", balanced(levels - 1), balanced(levels - 1))


class Conditions(Base):
    def taken(self, condition):
        self.assertIs(type(Diagram(SIZES, ORDER, condition)), Diagram)

    def refused(self, condition):
        with self.subTest(condition=condition):
            self.exactly(InvalidCondition, Diagram, SIZES, ORDER, condition)

    def test_right_ones(self):
        rows = [
            ("in", 0, []), ("in", 0, [(0, 0)]), ("in", 0, [(9, 9)]), ("in", 0, [(0, 9)]), ("in", 1, [(0, 1), (5, 6)]),
            ("in", 2, spread(12)), ("in", 2, [(20, 49)]), ("in", 2, [(0, 99)]), ("not", ONE), ("and", ONE, ONE),
            ("or", ONE, ("in", 2, [])), ("not", ("not", ("or", ("and", ONE, ONE), ("not", ONE)))),
        ]
        for condition in rows:
            self.taken(condition)

    def test_bent_words(self):
        for word in ("", "In", "IN", "in ", "no", "And", "xor", "nor", "0", None, 0, True, (), ["in"], ("in",), {},
                     example(), ValueSet(3, [])):
            self.refused((word, 0, [(3, 3)]))
            self.refused((word, ONE))
            self.refused((word, ONE, ONE))
            self.refused(("not", (word, ONE)))

    def test_words_with_other_parts(self):
        rows = [
            ("in", ONE), ("not", 0, [(3, 3)]), ("and", 0, [(3, 3)]), ("or", 0, [(3, 3)]), ("not", ONE, ONE),
            ("in", ONE, ONE), ("and", ONE), ("or", ONE), ("and",), ("or",), ("not",), ("in",), (), ("in", 0),
            ("in", [(3, 3)]), ("in", 0, [(3, 3)], 0), ("in", 0, [(3, 3)], [(3, 3)]), ("and", ONE, ONE, ONE),
            ("or", ONE, ONE, ONE), ("not", ONE, None), ("in", [(3, 3)], 0), (0, "in", [(3, 3)]), (ONE, "and", ONE),
            (ONE,), (ONE, ONE), ("and", ONE, None), ("and", None, ONE), ("or", ONE, 3), ("or", (), ONE), ("not", ()),
            ("not", "in"), ("and", "in", "in"), ("and", ONE, True), ("not", [(3, 3)]), ("not", 0),
        ]
        for condition in rows:
            self.refused(condition)

    def test_lists_in_the_place_of_tuples_and_other_way_round(self):
        rows = [
            ["in", 0, [(3, 3)]], ("in", 0, [[3, 3]]), ("in", 0, ((3, 3),)), ("in", 0, (3, 3)), ("in", 0, ()),
            ["not", ONE], ("not", ["in", 0, [(3, 3)]]), ["and", ONE, ONE], ("and", ONE, ["in", 0, [(3, 3)]]),
            ("and", ["not", ONE], ONE), ["or", ONE, ONE], ("or", ["in", 0, []], ONE), ("in", [0], [(3, 3)]),
            ("in", (0,), [(3, 3)]), ("and", [ONE, ONE]), ("not", [ONE]), [ONE], ("in", 0, {}), ("in", 0, {3: 3}),
            ("in", 0, "3"), ("in", 0, None), ("in", 0, 3), ("in", 0, True), {"in": 0},
            ("in", 0, ValueSet(10, [(3, 3)])),
        ]
        for condition in rows:
            self.refused(condition)

    def test_booleans_in_the_place_of_integers(self):
        for condition in (("in", False, [(3, 3)]), ("in", True, [(3, 3)]), ("in", 0, [(False, 3)]),
                          ("in", 0, [(0, True)]),
                          ("in", 0, [(True, True)]), ("in", 0, [(0, 0), (2, True)]), (True, 0, [(3, 3)])):
            self.refused(condition)
            self.refused(("not", condition))
            self.refused(("or", ONE, condition))
            self.refused(("or", condition, ONE))

    def test_columns_out_of_the_sizes(self):
        for column in (-1, 3, 4, 8, 10 ** 59, -10 ** 59, None, "0", "", 0 * HUGE - 3):
            self.refused(("in", column, []))
            self.refused(("and", ONE, ("in", column, [(3, 3)])))
        for sizes in ([5], [5] * 8):
            self.assertEqual(Diagram(sizes, all_up(range(len(sizes))), ("in", len(sizes) - 1, [])).total, 0)
            self.exactly(InvalidCondition, Diagram, sizes, all_up(range(len(sizes))), ("in", len(sizes), []))

    def test_stretches_that_are_none_of_the_column(self):
        rows = [
            (0, [(9, 10)]), (0, [(10, 10)]), (1, [(6, 7)]), (1, [(5, 6), (8, 9)]), (2, [(99, 100)]), (0, [(-1, 3)]),
            (0, [(3, 2)]), (0, [(0, 1), (2, 3)]), (0, [(0, 2), (2, 3)]), (0, [(0, 3), (1, 2)]), (0, [(5, 6), (0, 1)]),
            (0, [(3, 3), (3, 3)]), (0, [(3,)]), (0, [(3, 3, 3)]), (0, [()]), (0, [3]), (0, [None]), (0, [("3", "3")]),
            (0, [(3, None)]), (0, [(3, 3), None]), (0, [(0, 10 ** 59)]), (1, [(0, 9)]), (2, spread(13)), (2, [[]]),
        ]
        for column, stretches in rows:
            self.refused(("in", column, stretches))
            self.refused(("not", ("and", ONE, ("in", column, stretches))))

    def test_stretches_are_those_of_the_very_column(self):
        self.taken(("in", 2, [(0, 99)]))
        self.taken(("in", 0, [(0, 9)]))
        self.refused(("in", 1, [(0, 9)]))
        self.refused(("in", 0, [(0, 99)]))

    def test_twelve_and_thirteen_stretches(self):
        self.taken(("in", 2, spread(12, 1)))
        self.refused(("in", 2, spread(13, 1)))
        great = [HUGE]
        self.assertEqual(Diagram(great, all_up([0]), ("in", 0, spread(12, 0, 10 ** 28))).total, 12)
        self.exactly(InvalidCondition, Diagram, great, all_up([0]), ("in", 0, spread(13, 0, 10 ** 28)))

    def test_twenty_and_twenty_one_levels(self):
        self.taken(deep(20))
        self.assertEqual(Diagram(SIZES, ORDER, deep(20)), Diagram(SIZES, ORDER, ("not", ONE)))
        for levels in (21, 22, 24, 60):
            self.refused(deep(levels))
        self.taken(("and", deep(19), deep(19)))
        for condition in (("and", deep(20), ONE), ("and", ONE, deep(20)), ("or", deep(20), deep(20))):
            self.refused(condition)

    def test_twelve_and_thirteen_of_the_first_kind(self):
        for word in ("and", "or"):
            self.taken(wide(12, word))
            for sets in (13, 14, 20):
                self.refused(wide(sets, word))
        self.taken(("or", wide(6), ("not", wide(6))))
        self.refused(("or", wide(6), ("not", wide(7))))
        self.refused(("or", wide(7), ("not", wide(6))))
        self.taken(balanced(4))
        self.refused(balanced(5))

    def test_the_same_tuple_in_many_places(self):
        found = ONE
        for _ in range(24):
            found = ("and", found, found)
        self.refused(found)

    def test_both_limits_at_once(self):
        found = wide(12)
        for _ in range(8):
            found = ("not", found)
        self.taken(found)
        self.refused(("not", found))

    def test_any_object(self):
        for thing in odd_objects():
            if thing != ("in", 0, []):
                self.refused(thing)
            self.refused(("in", 0, [(3, 3), thing]))
            self.refused(("in", thing, [(3, 100)]))
            self.refused(("and", ONE, ("not", (thing,))))
        self.refused(nested(25))


class Sizes(Base):
    def refused(self, sizes):
        with self.subTest(sizes=sizes):
            self.exactly(InvalidSizes, Diagram, sizes, ORDER, ONE)

    def test_how_many(self):
        for many in range(1, 9):
            self.assertEqual(Diagram([5] * many, all_up(range(many)), ONE).total, 5 ** (many - 1))
        for many in (0, 9, 10, 100):
            self.exactly(InvalidSizes, Diagram, [5] * many, all_up(range(many)), ONE)

    def test_how_great(self):
        self.assertEqual(Diagram([1], all_up([0]), ("in", 0, [(0, 0)])).total, 1)
        self.assertEqual(Diagram([HUGE], all_up([0]), ("in", 0, [(0, HUGE - 1)])).total, HUGE)
        for size in (0, -1, HUGE + 1, 10 ** 59, -HUGE):
            self.exactly(InvalidSizes, Diagram, [size], all_up([0]), ("in", 0, []))
            self.refused([10, 7, size])
            self.refused([size, 7, 100])

    def test_other_forms(self):
        rows = [
            (10, 7, 100), [], (), [10, 7, True], [True, 7, 100], [False], [10, 7, None], [10, 7, "100"], ["10"],
            [[10, 7, 100]], [(10, 7, 100)], {10: 7}, {}, "10 7 100", None, True, 0, 3, [10, 7, [100]], [10, 7, (100,)],
            [ValueSet(10, [])] * 3, Box([ValueSet(10, [])]), [10, 7, ValueSet(100, [])],
        ]
        for sizes in rows:
            self.refused(sizes)

    def test_any_object(self):
        for thing in odd_objects():
            if thing not in ([1, 2],):
                self.refused(thing)
            self.refused([10, 7, 100, thing] if not isinstance(thing, int) or isinstance(thing, bool) else [10, -1])


class Orders(Base):
    def test_what_is_none(self):
        rows = [
            [], all_up([0, 1]), all_up([0, 1, 1]), all_up([0, 1, 2, 3]), all_up([1, 2, 3]), all_up([0, 1, -1]),
            tuple(all_up([0, 1, 2])), [[0, True], [1, True], [2, True]], [(0, 1), (1, True), (2, True)],
            [(0, True), (1, True), (2, 0)], [(False, True), (1, True), (2, True)], [(0, True), (True, True), (2, True)],
            [(0, True), (1, True), (2, None)], [(0, True), (1, True), (2,)], [(0, True, True), (1, True), (2, True)],
            [0, 1, 2], [("0", True), (1, True), (2, True)], "+0 +1 +2", {0: True, 1: True, 2: True}, [True] * 3,
        ]
        for order in rows + odd_objects():
            with self.subTest(order=order):
                self.exactly(InvalidOrder, Diagram, SIZES, order, ONE)

    def test_an_order_of_each_length(self):
        for many in range(1, 9):
            for other in {1, many - 1, many + 1, 8} - {0, many}:
                self.exactly(InvalidOrder, Diagram, [5] * many, all_up(range(other)), ONE)


class SeveralWrongOnes(Base):
    def test_by_the_signature(self):
        for sizes in ([], [0], (10, 7, 100), None, [10, 7, True]):
            self.exactly(InvalidSizes, Diagram, sizes, ORDER, ONE)
            self.exactly(InvalidSizes, Diagram, sizes, [], ONE)
            self.exactly(InvalidSizes, Diagram, sizes, ORDER, None)
            self.exactly(InvalidSizes, Diagram, sizes, None, None)
        for order in ([], all_up([0, 1]), tuple(ORDER), None):
            for condition in (None, ("in", 3, []), deep(21), ()):
                self.exactly(InvalidOrder, Diagram, SIZES, order, condition)
        self.exactly(InvalidSizes, Diagram, condition=None, order=None, sizes=None)
        self.exactly(InvalidOrder, Diagram, condition=None, order=None, sizes=SIZES)
        self.exactly(InvalidCondition, Diagram, condition=None, order=ORDER, sizes=SIZES)


if __name__ == "__main__":
    unittest.main()
