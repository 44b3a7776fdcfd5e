import unittest
from fractions import Fraction
from itertools import product

from brute import HUGE, Base, all_value_lists, odd_objects, set_of, spread
from scanranges import boxes
from scanranges.boxes import Box
from scanranges.errors import EmptyBox, InvalidBox, OtherSizes, TooMany
from scanranges.valuesets import ValueSet

EXAMPLE = [ValueSet(10, [(3, 3)]), ValueSet(7, [(0, 1), (5, 6)]), ValueSet(100, [(20, 49)])]


class Making(Base):
    """Points 3 and 7: which lists of sets are valid."""

    def test_one_to_eight_sets(self):
        for many in range(1, 9):
            made = Box([ValueSet(at + 1, []) for at in range(many)])
            self.assertEqual(made.sets, [ValueSet(at + 1, []) for at in range(many)])

    def test_none_nine_and_more(self):
        for many in (0, 9, 10, 100):
            self.exactly(InvalidBox, Box, [ValueSet(3, [(0, 0)])] * many)

    def test_the_same_set_twice(self):
        one = ValueSet(3, [(0, 0)])
        self.assertEqual(Box([one, one]).sizes, [3, 3])

    def test_other_forms(self):
        one = ValueSet(3, [(0, 0)])
        rows = [
            (one,), (one, one), (), one, Box([one]), [Box([one])], [[one]], [(one,)], {"a": one}, {}, None, "", "a",
            0, 1, True, False, [None], [one, None], [None, one], [one, one, 3], [[(0, 0)]], [3, [(0, 0)]], [one, []],
        ]
        for sets in rows:
            with self.subTest(sets=sets):
                self.exactly(InvalidBox, Box, sets)

    def test_any_object(self):
        for thing in odd_objects():
            with self.subTest(thing=thing):
                self.exactly(InvalidBox, Box, thing)

    def test_by_name(self):
        self.assertEqual(Box(sets=EXAMPLE), Box(EXAMPLE))
        self.exactly(InvalidBox, Box, sets=())

    def test_a_list_that_was_passed_is_neither_modified_nor_kept(self):
        sets = list(EXAMPLE)
        made = Box(sets)
        self.assertEqual(sets, EXAMPLE)
        sets.append(ValueSet(3, []))
        sets[0] = None
        self.assertEqual(made.sets, EXAMPLE)
        self.assertEqual(made.total, 120)

    def test_methods_stand_in_the_class(self):
        for name in ("sets", "sizes", "total", "numbers", "__eq__", "__contains__", "__and__"):
            self.assertIn(name, vars(Box))
        self.assertEqual(Box.__module__, boxes.__name__)


class Properties(Base):
    def test_the_example(self):
        made = Box(EXAMPLE)
        self.assertEqual(made.sets, EXAMPLE)
        self.assertEqual(made.sizes, [10, 7, 100])
        self.assertEqual(made.total, 120)

    def test_total_of_small_boxes(self):
        for mine in all_value_lists(3):
            for theirs in all_value_lists(4):
                self.assertEqual(Box([set_of(3, mine), set_of(4, theirs)]).total, len(mine) * len(theirs))

    def test_total_of_great_boxes(self):
        full = ValueSet(HUGE, [(0, HUGE - 1)])
        self.assertEqual(Box([full] * 8).total, 10 ** 240)
        self.assertEqual(Box([full] * 7 + [ValueSet(HUGE, [])]).total, 0)
        self.assertEqual(Box([full] * 7 + [ValueSet(HUGE, [(1, 3)])]).sizes, [HUGE] * 8)

    def test_lists_are_new_each_time(self):
        made = Box(EXAMPLE)
        self.assertIsNot(made.sets, made.sets)
        self.assertIsNot(made.sizes, made.sizes)
        self.assertIsNot(made.numbers(), made.numbers())
        self.assertIs(type(made.sets), list)
        self.assertIs(type(made.sizes), list)
        self.assertIs(type(made.numbers()), list)
        made.sets.append(None)
        made.sets[0] = ValueSet(10, [])
        made.sizes.clear()
        made.numbers().clear()
        self.assertEqual((made.sets, made.sizes, made.total), (EXAMPLE, [10, 7, 100], 120))
        self.assertEqual(made.numbers(), [(1, 1), (1, 3), (1, 30)])


class Membership(Base):
    def test_each_key_of_small_boxes(self):
        for mine, theirs in product(all_value_lists(3), all_value_lists(2)):
            made = Box([set_of(3, mine), set_of(2, theirs)])
            for a, b in product(range(-1, 4), range(-1, 3)):
                self.assertIs((a, b) in made, a in mine and b in theirs)

    def test_the_example(self):
        made = Box(EXAMPLE)
        for key in ((3, 0, 20), (3, 6, 49), (3, 1, 30), (3, 5, 20)):
            self.assertTrue(key in made)
        for key in ((2, 0, 20), (4, 0, 20), (3, 2, 20), (3, 4, 20), (3, 0, 19), (3, 0, 50), (3, 7, 20), (3, -1, 20),
                    (3, 0, 100), (10 ** 59, 0, 20), (3, 0, -20)):
            self.assertFalse(key in made)

    def test_another_length(self):
        made = Box(EXAMPLE)
        for key in ((), (3,), (3, 0), (3, 0, 20, 0), (3, 0, 20) * 2, (3, 0, 20, None)):
            self.assertIs(key in made, False)
        self.assertIs((0, 0) in Box([ValueSet(1, [(0, 0)])]), False)
        self.assertIs((0,) in Box([ValueSet(1, [(0, 0)])]), True)

    def test_booleans_are_no_values(self):
        made = Box([ValueSet(2, [(0, 1)]), ValueSet(2, [(0, 1)])])
        self.assertTrue((0, 1) in made)
        for key in ((False, 1), (0, True), (True, True), (False, False)):
            self.assertIs(key in made, False)

    def test_any_other_object(self):
        made = Box([ValueSet(3, [(0, 2)]), ValueSet(3, [(0, 2)])])
        more = [[0, 1], [(0, 1)], ((0, 1),), ("0", "1"), (0, None), (0, (1,)), (0, [1]), {"a": 0, "b": 1}, "01",
                (ValueSet(3, []), 0)]
        for thing in odd_objects() + more:
            with self.subTest(thing=thing):
                self.assertIs(thing in made, type(thing) is tuple and thing == (0, 1))
        for thing in odd_objects() + [(1,), (2,)]:
            with self.subTest(thing=thing):
                self.assertIs(thing in Box([ValueSet(3, [(0, 2)])]), thing in [(0,), (1,), (2,)])

    def test_an_empty_box_has_no_key(self):
        made = Box([ValueSet(2, [(0, 1)]), ValueSet(2, [])])
        for key in product(range(-1, 3), repeat=2):
            self.assertFalse(key in made)


class Equality(Base):
    def test_equal_sets(self):
        made = [Box([set_of(2, mine), set_of(3, theirs)]) for mine in all_value_lists(2) for theirs in all_value_lists(3)]
        for at, one in enumerate(made):
            for index, other in enumerate(made):
                self.assertIs(one == other, at == index)
                self.assertIs(one != other, at != index)
            self.assertIs(one == Box(one.sets), True)

    def test_other_columns(self):
        one = ValueSet(3, [(0, 0)])
        self.assertFalse(Box([one]) == Box([one, one]))
        self.assertFalse(Box([one, one]) == Box([one]))
        self.assertFalse(Box([one]) == Box([ValueSet(4, [(0, 0)])]))
        self.assertFalse(Box([one, ValueSet(3, [])]) == Box([ValueSet(3, []), one]))
        self.assertFalse(Box([one, ValueSet(3, [])]) == Box([ValueSet(3, []), ValueSet(3, [])]))

    def test_any_other_object(self):
        made = Box([ValueSet(10, [(0, 1)])])
        for thing in odd_objects() + [made.sets, made.sets[0], (made,)]:
            with self.subTest(thing=thing):
                self.assertIs(made == thing, False)
                self.assertIs(made != thing, True)


class Both(Base):
    """The keys in both of two boxes."""

    def test_small_boxes(self):
        lists = list(product(all_value_lists(2), all_value_lists(3)))
        for mine, theirs in product(lists, lists):
            one = Box([set_of(2, mine[0]), set_of(3, mine[1])])
            other = Box([set_of(2, theirs[0]), set_of(3, theirs[1])])
            both = one & other
            for key in product(range(2), range(3)):
                self.assertIs(key in both, key in one and key in other)
            common = [[value for value in mine[at] if value in theirs[at]] for at in (0, 1)]
            self.assertEqual(both, Box([set_of(2, common[0]), set_of(3, common[1])]))

    def test_great_boxes(self):
        one = Box([ValueSet(HUGE, [(0, 10 ** 20)])] * 8)
        other = Box([ValueSet(HUGE, [(10 ** 10, 10 ** 25)])] * 8)
        self.assertEqual(one & other, Box([ValueSet(HUGE, [(10 ** 10, 10 ** 20)])] * 8))
        self.assertIs(type(one & other), Box)

    def test_other_objects(self):
        one = ValueSet(3, [(0, 1)])
        made = Box([one])
        for thing in odd_objects() + [one, [one]]:
            if isinstance(thing, Box):
                continue
            with self.subTest(thing=thing):
                self.exactly(InvalidBox, lambda: made & thing)

    def test_other_sizes(self):
        one, other = ValueSet(3, [(0, 1)]), ValueSet(4, [(0, 1)])
        rows = [([one], [other]), ([one, one], [one, other]), ([one, other], [other, one]), ([one], [one, one]),
                ([one, one], [one]), ([one] * 8, [one] * 7), ([one], [one, other])]
        for mine, theirs in rows:
            self.exactly(OtherSizes, lambda: Box(mine) & Box(theirs))

    def test_twelve_and_thirteen_stretches(self):
        comb = ValueSet(60, [(start, start + 2) for start in range(0, 48, 4)])
        full = ValueSet(60, [(0, 59)])
        twelve, thirteen = ValueSet(60, [(2, 59)]), ValueSet(60, [(0, 0), (2, 59)])
        self.assertEqual((Box([full, comb]) & Box([full, twelve])).sets, [full, comb & twelve])
        self.assertEqual(len((Box([full, comb]) & Box([full, twelve])).sets[1].stretches), 12)
        self.exactly(TooMany, lambda: Box([full, comb]) & Box([full, thirteen]))
        self.exactly(TooMany, lambda: Box([thirteen, full]) & Box([comb, full]))

    def test_other_sizes_come_before_too_many(self):
        comb = ValueSet(60, [(start, start + 2) for start in range(0, 48, 4)])
        thirteen, one, other = ValueSet(60, [(0, 0), (2, 59)]), ValueSet(3, []), ValueSet(4, [])
        self.exactly(OtherSizes, lambda: Box([comb, one]) & Box([thirteen, other]))
        self.exactly(OtherSizes, lambda: Box([comb, one]) & Box([thirteen]))

    def test_nothing_is_changed(self):
        comb = ValueSet(60, [(start, start + 2) for start in range(0, 48, 4)])
        thirteen = ValueSet(60, [(0, 0), (2, 59)])
        one, other = Box([comb]), Box([thirteen])
        self.exactly(TooMany, lambda: one & other)
        self.exactly(InvalidBox, lambda: one & comb)
        self.assertEqual((one.sets, other.sets), ([comb], [thirteen]))
        both = Box(EXAMPLE) & Box(EXAMPLE)
        both.sets.append(None)
        self.assertEqual(both, Box(EXAMPLE))


class Numbers(Base):
    """Point 4, R2: the number of a column."""

    def test_the_example(self):
        self.assertEqual(Box(EXAMPLE).numbers(), [(1, 1), (1, 3), (1, 30)])

    def test_each_set_of_small_columns(self):
        for size in range(2, 9):
            for values in all_value_lists(size):
                if values:
                    self.check_one(size, values)

    def check_one(self, size, values):
        made = set_of(size, values)
        many, stretches = len(values), len(made.stretches)
        if 0 in values and size - 1 in values:
            worth = Fraction(stretches - 1, many - 1)
        else:
            worth = Fraction(stretches, many)
        self.assertEqual(Box([made]).numbers(), [(worth.numerator, worth.denominator)])

    def test_without_a_common_divisor(self):
        rows = [
            (ValueSet(10, [(1, 1), (3, 5)]), (1, 2)),
            (ValueSet(10, [(0, 0), (9, 9)]), (1, 1)),
            (ValueSet(20, [(1, 3), (5, 6), (8, 8)]), (1, 2)),
            (ValueSet(20, [(0, 3), (5, 6), (19, 19)]), (1, 3)),
            (ValueSet(20, [(0, 2), (5, 6), (18, 19)]), (1, 3)),
            (ValueSet(20, [(0, 0), (5, 6), (18, 19)]), (1, 2)),
            (ValueSet(20, [(1, 2), (5, 7)]), (2, 5)),
        ]
        for made, number in rows:
            self.assertEqual(Box([made]).numbers(), [number])

    def test_full_sets(self):
        for size in (2, 3, 10, HUGE):
            self.assertEqual(Box([ValueSet(size, [(0, size - 1)])]).numbers(), [(0, 1)])

    def test_one_value(self):
        for value in (0, 4, 9):
            self.assertEqual(Box([ValueSet(10, [(value, value)])]).numbers(), [(1, 1)])
        self.assertEqual(Box([ValueSet(2, [(0, 0)]), ValueSet(2, [(1, 1)])]).numbers(), [(1, 1), (1, 1)])

    def test_idle_columns(self):
        idle, one = ValueSet(1, [(0, 0)]), ValueSet(4, [(1, 2)])
        self.assertEqual(Box([idle]).numbers(), [None])
        self.assertEqual(Box([idle, one, idle]).numbers(), [None, (1, 2), None])

    def test_great_columns(self):
        made = Box([ValueSet(HUGE, [(0, 10 ** 20 - 1), (HUGE - 1, HUGE - 1)]), ValueSet(HUGE, [(1, 10 ** 29)])])
        self.assertEqual(made.numbers(), [(1, 10 ** 20), (1, 10 ** 29)])
        self.assertEqual(Box([ValueSet(HUGE, spread(12, 1))]).numbers(), [(1, 1)])

    def test_empty_boxes(self):
        idle, one, none = ValueSet(1, [(0, 0)]), ValueSet(4, [(1, 2)]), ValueSet(4, [])
        for sets in ([none], [one, none], [none, one], [idle, none], [ValueSet(1, [])], [one, ValueSet(1, [])]):
            self.exactly(EmptyBox, Box(sets).numbers)
        made = Box([one, none])
        self.exactly(EmptyBox, made.numbers)
        self.assertEqual(made.sets, [one, none])


if __name__ == "__main__":
    unittest.main()
