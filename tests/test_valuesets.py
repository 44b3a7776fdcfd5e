import unittest

from brute import HUGE, Base, all_value_lists, odd_objects, set_of, spread, stretches_of, values_of
from scanranges import valuesets
from scanranges.boxes import Box
from scanranges.errors import InvalidNumber, InvalidSet, OtherSizes, TooMany
from scanranges.valuesets import ValueSet


class Making(Base):
    """Points 3 and 6: which lists of stretches are valid."""

    def test_valid_ones(self):
        rows = [
            (1, []), (1, [(0, 0)]), (2, [(1, 1)]), (3, [(0, 0), (2, 2)]), (10, [(0, 9)]), (10, [(3, 5)]),
            (5, [(0, 1), (3, 4)]), (HUGE, []), (HUGE, [(0, HUGE - 1)]), (HUGE, [(0, 0), (HUGE - 1, HUGE - 1)]),
            (HUGE, [(0, HUGE // 2), (HUGE // 2 + 2, HUGE - 1)]),
        ]
        for size, stretches in rows:
            with self.subTest(size=size, stretches=stretches):
                made = ValueSet(size, stretches)
                self.assertEqual(made.size, size)
                self.assertEqual(made.stretches, stretches)

    def test_none_to_twelve_stretches(self):
        for many in range(13):
            self.assertEqual(ValueSet(25, spread(many)).stretches, spread(many))
            self.assertEqual(ValueSet(HUGE, spread(many, 5, 10 ** 20)).stretches, spread(many, 5, 10 ** 20))

    def test_thirteen_and_more(self):
        for many in (13, 14, 50):
            self.exactly(InvalidSet, ValueSet, 100, spread(many))
            self.exactly(InvalidSet, ValueSet, HUGE, spread(many, 5, 10 ** 20))

    def test_invalid_lists(self):
        rows = [
            [(3, 2)], [(0, 1), (5, 4)], [(9, 0)],
            [(0, 1), (2, 3)], [(0, 0), (1, 1)], [(4, 6), (7, 7)],
            [(0, 2), (2, 4)], [(0, 5), (1, 2)], [(0, 5), (4, 7)], [(3, 3), (3, 3)],
            [(5, 6), (0, 1)], [(8, 8), (5, 5), (2, 2)], [(0, 1), (6, 7), (3, 4)],
            [(-1, 0)], [(-2, -1)], [(0, 10)], [(10, 10)], [(11, 12)], [(9, 10 ** 59)], [(-10 ** 59, 3)],
            [(0, 1), (9, 10)], [(-1, -1), (3, 3)],
        ]
        for stretches in rows:
            with self.subTest(stretches=stretches):
                self.exactly(InvalidSet, ValueSet, 10, stretches)

    def test_stretches_of_another_form(self):
        rows = [
            [(0,)], [(0, 1, 2)], [()], [[0, 1]], [(0, 1), [3, 4]], [0], [0, 1], [(0, 1), 3], [None], ["01"],
            [("0", "1")], [(0, "1")], [(None, 1)], [((0, 0), (1, 1))], [(0, [1])],
            [(False, 1)], [(0, True)], [(False, True)], [(False, False)], [(0, 1), (True, 3)], [(3, 4), (6, True)],
            ((0, 1),), (), ((0, 1), (3, 4)), {}, {"first": 0}, "", "0-1", None, 0, 5, True, False,
            ValueSet(10, [(0, 1)]), [ValueSet(10, [(0, 1)])], Box([ValueSet(10, [])]),
        ]
        for stretches in rows:
            with self.subTest(stretches=stretches):
                self.exactly(InvalidSet, ValueSet, 10, stretches)

    def test_any_object_as_stretches(self):
        for thing in odd_objects():
            if thing == []:
                continue
            with self.subTest(thing=thing):
                self.exactly(InvalidSet, ValueSet, 3, thing)

    def test_all_lists_of_up_to_three_stretches_in_a_small_column(self):
        ends = range(-1, 6)
        pairs = [(first, last) for first in ends for last in ends]
        lists = [[]] + [[a] for a in pairs] + [[a, b] for a in pairs for b in pairs]
        good = [stretches_of(values) for values in all_value_lists(5)]
        for stretches in lists:
            if stretches in good:
                self.assertEqual(ValueSet(5, stretches).stretches, stretches)
            else:
                self.exactly(InvalidSet, ValueSet, 5, stretches)

    def test_sizes(self):
        for size in (1, 2, HUGE - 1, HUGE):
            self.assertEqual(ValueSet(size, []).size, size)
        for size in (0, -1, HUGE + 1, 2 * HUGE, 10 ** 59, -10 ** 59, True, False, None, "3", [3], (3,)):
            with self.subTest(size=size):
                self.exactly(InvalidSet, ValueSet, size, [])
                self.exactly(InvalidSet, ValueSet, size, [(0, 0)])
                self.exactly(InvalidSet, ValueSet, size, None)

    def test_by_name_and_in_any_order(self):
        made = ValueSet(stretches=[(1, 2)], size=4)
        self.assertEqual((made.size, made.stretches), (4, [(1, 2)]))
        self.exactly(InvalidSet, ValueSet, stretches=[(1, 4)], size=4)

    def test_a_list_that_was_passed_is_neither_modified_nor_kept(self):
        stretches = [(0, 1), (4, 4)]
        made = ValueSet(6, stretches)
        self.assertEqual(stretches, [(0, 1), (4, 4)])
        stretches.append((3, 3))
        stretches[0] = "x"
        self.assertEqual(made.stretches, [(0, 1), (4, 4)])
        self.assertEqual(made.total, 3)
        self.assertTrue(1 in made)

    def test_a_list_that_was_not_valid_is_not_modified(self):
        stretches = [(5, 5), (0, 1), [2, 3]]
        self.exactly(InvalidSet, ValueSet, 6, stretches)
        self.assertEqual(stretches, [(5, 5), (0, 1), [2, 3]])

    def test_methods_stand_in_the_class(self):
        for name in ("size", "stretches", "total", "wraps", "turned", "nth", "__eq__", "__contains__", "__and__",
                     "__or__", "__invert__"):
            self.assertIn(name, vars(ValueSet))
        self.assertEqual(ValueSet.__module__, valuesets.__name__)


class Properties(Base):
    def test_total(self):
        for values in all_value_lists(6):
            self.assertEqual(set_of(6, values).total, len(values))
        self.assertEqual(ValueSet(HUGE, [(0, HUGE - 1)]).total, HUGE)
        self.assertEqual(ValueSet(HUGE, [(3, 3), (10, 10 ** 29)]).total, 10 ** 29 - 8)

    def test_wraps(self):
        for size in range(1, 7):
            for values in all_value_lists(size):
                self.assertIs(set_of(size, values).wraps, 0 in values and size - 1 in values)

    def test_wraps_in_great_columns(self):
        self.assertIs(ValueSet(HUGE, [(0, 0), (HUGE - 1, HUGE - 1)]).wraps, True)
        self.assertIs(ValueSet(HUGE, [(0, HUGE - 1)]).wraps, True)
        self.assertIs(ValueSet(HUGE, [(0, HUGE - 2)]).wraps, False)
        self.assertIs(ValueSet(HUGE, [(1, HUGE - 1)]).wraps, False)

    def test_stretches_are_new_each_time(self):
        made = ValueSet(6, [(0, 1), (4, 4)])
        self.assertIsNot(made.stretches, made.stretches)
        self.assertIs(type(made.stretches), list)
        self.assertTrue(all([type(one) is tuple for one in made.stretches]))
        got = made.stretches
        got.append((5, 5))
        got[0] = None
        self.assertEqual(made.stretches, [(0, 1), (4, 4)])
        self.assertEqual(made.total, 3)
        self.assertEqual((~made).stretches, [(2, 3), (5, 5)])


class Membership(Base):
    def test_each_value_of_small_columns(self):
        for size in range(1, 7):
            for values in all_value_lists(size):
                made = set_of(size, values)
                for value in range(-2, size + 3):
                    self.assertIs(value in made, value in values, (size, values, value))

    def test_great_columns(self):
        made = ValueSet(HUGE, [(5, 10 ** 20), (10 ** 25, HUGE - 1)])
        for value in (5, 6, 10 ** 20, 10 ** 25, HUGE - 1):
            self.assertTrue(value in made)
        for value in (-1, 0, 4, 10 ** 20 + 1, 10 ** 25 - 1, HUGE, HUGE + 1, 10 ** 59, -10 ** 59):
            self.assertFalse(value in made)

    def test_any_other_object(self):
        made = ValueSet(10, [(0, 9)])
        for thing in odd_objects():
            inside = isinstance(thing, int) and not isinstance(thing, bool) and 0 <= thing <= 9
            with self.subTest(thing=thing):
                self.assertIs(thing in made, inside)

    def test_booleans_are_no_values(self):
        made = ValueSet(2, [(0, 1)])
        self.assertTrue(0 in made and 1 in made)
        self.assertFalse(True in made)
        self.assertFalse(False in made)


class Indices(Base):
    def test_each_index_of_small_columns(self):
        for size in range(1, 7):
            for values in all_value_lists(size):
                made = set_of(size, values)
                self.assertEqual([made.nth(index) for index in range(len(values))], values)
                for index in (-1, -2, -len(values), len(values), len(values) + 1, 10 ** 59, -10 ** 59):
                    if not 0 <= index < len(values):
                        self.exactly(InvalidNumber, made.nth, index)

    def test_great_columns(self):
        made = ValueSet(HUGE, [(5, 14), (100, 100), (10 ** 25, HUGE - 1)])
        rows = [(0, 5), (9, 14), (10, 100), (11, 10 ** 25), (12, 10 ** 25 + 1), (made.total - 1, HUGE - 1)]
        for index, value in rows:
            self.assertEqual(made.nth(index), value)
        for index in (-1, made.total, made.total + 1, HUGE, 10 ** 59, -HUGE):
            self.exactly(InvalidNumber, made.nth, index)

    def test_booleans_are_no_indices(self):
        made = ValueSet(5, [(0, 4)])
        self.exactly(InvalidNumber, made.nth, True)
        self.exactly(InvalidNumber, made.nth, False)

    def test_by_name(self):
        self.assertEqual(ValueSet(5, [(2, 4)]).nth(index=1), 3)
        self.exactly(InvalidNumber, ValueSet(5, [(2, 4)]).nth, index=3)

    def test_an_error_changes_nothing(self):
        made = ValueSet(5, [(2, 4)])
        self.exactly(InvalidNumber, made.nth, 3)
        self.assertEqual((made.size, made.stretches, made.nth(2)), (5, [(2, 4)], 4))


class Equality(Base):
    def test_same_size_and_stretches(self):
        made = [set_of(size, values) for size in (1, 2, 3, 4) for values in all_value_lists(size)]
        for at, one in enumerate(made):
            for index, other in enumerate(made):
                self.assertIs(one == other, at == index)
                self.assertIs(one != other, at != index)
            self.assertIs(one == ValueSet(one.size, one.stretches), True)

    def test_another_size_is_not_equal(self):
        self.assertFalse(ValueSet(10, [(0, 1)]) == ValueSet(11, [(0, 1)]))
        self.assertFalse(ValueSet(10, []) == ValueSet(11, []))

    def test_any_other_object(self):
        made = ValueSet(10, [(0, 1)])
        for thing in odd_objects() + [[(0, 1)], (10, [(0, 1)])]:
            with self.subTest(thing=thing):
                self.assertIs(made == thing, False)
                self.assertIs(made != thing, True)


class Signs(Base):
    """The operators &, | and ~, and turned."""

    def test_two_sets_of_small_columns(self):
        for size in range(1, 6):
            lists = all_value_lists(size)
            for mine in lists:
                for theirs in lists:
                    one, other = set_of(size, mine), set_of(size, theirs)
                    both = [value for value in mine if value in theirs]
                    either = [value for value in range(size) if value in mine or value in theirs]
                    self.assertEqual(one & other, set_of(size, both))
                    self.assertEqual(one | other, set_of(size, either))
                    self.assertEqual((one.stretches, other.stretches), (stretches_of(mine), stretches_of(theirs)))

    def test_one_set_of_small_columns(self):
        for size in range(1, 8):
            for values in all_value_lists(size):
                made = set_of(size, values)
                self.assertEqual(~made, set_of(size, [value for value in range(size) if value not in values]))
                self.assertEqual(made.turned(), set_of(size, [size - 1 - value for value in values]))
                self.assertEqual(made.stretches, stretches_of(values))

    def test_results_are_sets_of_the_same_size(self):
        one, other = ValueSet(9, [(0, 4)]), ValueSet(9, [(3, 6)])
        for made in (one & other, one | other, ~one, one.turned()):
            self.assertIs(type(made), ValueSet)
            self.assertEqual(made.size, 9)

    def test_great_columns(self):
        one = ValueSet(HUGE, [(0, 10 ** 20), (10 ** 25, HUGE - 1)])
        other = ValueSet(HUGE, [(10 ** 10, 10 ** 26), (10 ** 27, 10 ** 28)])
        self.assertEqual((one & other).stretches, [(10 ** 10, 10 ** 20), (10 ** 25, 10 ** 26), (10 ** 27, 10 ** 28)])
        self.assertEqual((one | other).stretches, [(0, HUGE - 1)])
        self.assertEqual((~one).stretches, [(10 ** 20 + 1, 10 ** 25 - 1)])
        self.assertEqual((~other).stretches, [(0, 10 ** 10 - 1), (10 ** 26 + 1, 10 ** 27 - 1), (10 ** 28 + 1, HUGE - 1)])
        self.assertEqual(one.turned().stretches, [(0, HUGE - 1 - 10 ** 25), (HUGE - 1 - 10 ** 20, HUGE - 1)])
        self.assertEqual((~ValueSet(HUGE, [])).stretches, [(0, HUGE - 1)])
        self.assertEqual((~ValueSet(HUGE, [(0, HUGE - 1)])).stretches, [])

    def test_stretches_that_touch_become_one(self):
        one, other = ValueSet(10, [(0, 2), (6, 7)]), ValueSet(10, [(3, 5), (9, 9)])
        self.assertEqual((one | other).stretches, [(0, 7), (9, 9)])
        self.assertEqual((ValueSet(26, spread(12)) | ValueSet(26, spread(12, 1))).stretches, [(0, 23)])

    def test_a_set_with_itself(self):
        made = ValueSet(10, [(1, 2), (5, 9)])
        self.assertEqual(made & made, made)
        self.assertEqual(made | made, made)
        self.assertEqual(~~made, made)
        self.assertEqual(made.turned().turned(), made)

    def test_twelve_and_thirteen_stretches_of_both(self):
        most = ValueSet(60, [(start, start + 2) for start in range(0, 48, 4)])
        twelve = ValueSet(60, [(2, 4), (10, 60 - 1)])
        self.assertEqual((most & ValueSet(60, [(0, 59)])).stretches, most.stretches)
        self.assertEqual(len((most & twelve).stretches), 12)
        thirteen = ValueSet(60, [(0, 0), (2, 59)])
        self.exactly(TooMany, lambda: most & thirteen)
        self.exactly(TooMany, lambda: thirteen & most)

    def test_twelve_and_thirteen_stretches_of_either(self):
        six = ValueSet(60, spread(6))
        self.assertEqual((six | ValueSet(60, spread(6, 20))).stretches, spread(6) + spread(6, 20))
        self.exactly(TooMany, lambda: six | ValueSet(60, spread(7, 20)))
        self.exactly(TooMany, lambda: ValueSet(60, spread(7, 20)) | six)
        self.exactly(TooMany, lambda: ValueSet(60, spread(12)) | ValueSet(60, spread(12, 30)))
        self.assertEqual(len((ValueSet(60, spread(12)) | ValueSet(60, [(1, 40)])).stretches), 1)

    def test_twelve_and_thirteen_stretches_of_all_others(self):
        self.assertEqual(len((~ValueSet(30, spread(12))).stretches), 12)
        self.assertEqual(len((~ValueSet(24, spread(12, 1))).stretches), 12)
        self.assertEqual(len((~ValueSet(23, spread(12))).stretches), 11)
        self.exactly(TooMany, lambda: ~ValueSet(30, spread(12, 1)))
        self.exactly(TooMany, lambda: ~ValueSet(25, spread(12, 1)))
        self.assertEqual(len((~ValueSet(30, spread(11, 1))).stretches), 12)

    def test_great_columns_with_too_many(self):
        one = ValueSet(HUGE, spread(12, 1, 10 ** 28))
        self.exactly(TooMany, lambda: ~one)
        self.exactly(TooMany, lambda: one | ValueSet(HUGE, [(HUGE - 1, HUGE - 1)]))

    def test_turned_keeps_twelve(self):
        self.assertEqual(ValueSet(30, spread(12)).turned().stretches, spread(12, 7))

    def test_other_objects(self):
        made = ValueSet(3, [(0, 1)])
        for thing in odd_objects() + [Box([made])]:
            if isinstance(thing, ValueSet):
                continue
            with self.subTest(thing=thing):
                self.exactly(InvalidSet, lambda: made & thing)
                self.exactly(InvalidSet, lambda: made | thing)

    def test_other_sizes(self):
        for size in (1, 2, 4, HUGE):
            other = ValueSet(size, [(0, 0)])
            self.exactly(OtherSizes, lambda: ValueSet(3, [(0, 0)]) & other)
            self.exactly(OtherSizes, lambda: ValueSet(3, [(0, 0)]) | other)

    def test_other_sizes_come_before_too_many(self):
        most = ValueSet(60, spread(12))
        self.exactly(OtherSizes, lambda: most | ValueSet(61, spread(12, 30)))
        comb = ValueSet(60, [(start, start + 2) for start in range(0, 48, 4)])
        self.exactly(OtherSizes, lambda: comb & ValueSet(61, [(0, 0), (2, 60)]))

    def test_errors_change_nothing(self):
        one, other = ValueSet(60, spread(12, 1)), ValueSet(60, spread(12, 30))
        self.exactly(TooMany, lambda: one | other)
        self.exactly(TooMany, lambda: ~one)
        self.exactly(InvalidSet, lambda: one & None)
        self.assertEqual((one.stretches, other.stretches), (spread(12, 1), spread(12, 30)))

    def test_the_results_share_no_list(self):
        one = ValueSet(9, [(0, 4)])
        both = one & one
        both.stretches.append((8, 8))
        self.assertEqual((one.stretches, both.stretches), ([(0, 4)], [(0, 4)]))

    def test_results_may_be_passed_back(self):
        one = ~ValueSet(9, [(2, 4)])
        self.assertEqual(ValueSet(one.size, one.stretches), one)
        self.assertEqual(values_of(one.stretches), [0, 1, 5, 6, 7, 8])


if __name__ == "__main__":
    unittest.main()
