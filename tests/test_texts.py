import unittest
from itertools import permutations, product

from brute import HUGE, ONE, Base, Chooser, all_orders, all_up, deep, some_condition, some_stretches, spread, wide
from scanranges import texts
from scanranges.diagrams import Diagram
from scanranges.errors import InvalidText
from scanranges.texts import read_condition, read_order, read_set, write_condition, write_order, write_set

SIGNS = "0123456789-,+: notadr"


class Place(Base):
    """A test case that asks for the place of an InvalidText."""

    def refused(self, read, text, place):
        with self.subTest(text=text):
            with self.assertRaises(InvalidText) as caught:
                read(text)
            self.assertIs(type(caught.exception), InvalidText)
            self.assertEqual(caught.exception.place, place)
            self.assertIs(type(caught.exception.place), int)

    def only_its_own(self, read, write, text):
        """A text is read if and only if it is what the writer makes of what is read."""
        try:
            found = read(text)
        except InvalidText:
            return False
        self.assertEqual(write(found), text)
        return True


class Sets(Place):
    def test_by_hand(self):
        rows = [
            ("-", []), ("0", [(0, 0)]), ("0-1,5-6", [(0, 1), (5, 6)]), ("3", [(3, 3)]), ("10-11", [(10, 11)]),
            ("0,2,4-5,7", [(0, 0), (2, 2), (4, 5), (7, 7)]), ("9-10", [(9, 10)]), ("1,3", [(1, 1), (3, 3)]),
            (str(HUGE - 1), [(HUGE - 1, HUGE - 1)]), (f"0-{HUGE - 1}", [(0, HUGE - 1)]),
            (f"0,2-{HUGE - 3},{HUGE - 1}", [(0, 0), (2, HUGE - 3), (HUGE - 1, HUGE - 1)]),
            (",".join([str(2 * at) for at in range(12)]), spread(12)),
        ]
        for text, stretches in rows:
            self.assertEqual(write_set(stretches), text)
            self.assertEqual(read_set(text), stretches)

    def test_back_and_forth(self):
        choose = Chooser(1)
        for at in range(300):
            stretches = some_stretches(choose, choose.one((5, 12, 10 ** 9, HUGE)))
            text = write_set(stretches)
            self.assertEqual(read_set(text), stretches)
            self.assertEqual(write_set(read_set(text)), text)
            self.assertTrue(" " not in text)

    def test_each_text_of_few_signs(self):
        taken = 0
        for length in range(6):
            for signs in product("0123-,", repeat=length):
                taken += self.only_its_own(read_set, write_set, "".join(signs))
        self.assertGreater(taken, 100)

    def test_places(self):
        rows = [
            ("", 0), (" ", 0), ("\n", 0), ("a", 0), ("--", 0), ("-1", 0), ("1-", 0), ("1--2", 0), ("1-2-3", 0),
            ("3-3", 0),
            ("3-2", 0), ("01", 0), ("00", 0), ("0-01", 0), ("00-1", 0), ("+1", 0), ("1 ", 0), (" 1", 0), ("1\n", 0),
            ("\n1", 0), ("1-2 ", 0), ("1 -2", 0), ("1- 2", 0), ("1_0", 0), ("1.0", 0), ("0x1", 0), ("1e3", 0), (":", 0),
            ("1;3", 0), ("0-1,", 1), (",", 0), (",1", 0), ("1,,3", 1), ("1,3,", 2), ("1, 3", 1), ("1 ,3", 0),
            ("1,3 ", 1),
            ("-,1", 1), ("-,", 1), ("-,-", 1), ("-,,", 1), ("1,-", 1), ("1,3,-", 2), ("1,-,5", 1), ("- ", 0), (" -", 0),
            ("-\n", 0), ("0-1,2-3", 1), ("0-1,1", 1), ("0-1,2", 1), ("0,1", 1), ("5,0", 1), ("5-6,0-1", 1), ("3,3", 1),
            ("0-5,2-3", 1), ("0,2,3", 2), ("0,2,4-5,6", 3), ("0,2,4-5,7,7", 4), ("0,3-3", 1), ("0,2,5-4", 2),
            ("0-1,5-6,a", 2), ("0-1,5-06", 1), ("0-1,+5", 1), (str(HUGE), 0), (f"0-{HUGE}", 0), (f"0,{HUGE}", 1),
            (f"{HUGE}-{HUGE + 5}", 0), ("9" * 60, 0), ("9" * 61, 0), ("0,2-" + "9" * 61, 1), ("1" * 100, 0),
            (",".join([str(2 * at) for at in range(13)]), 12), (",".join([str(2 * at) for at in range(14)]), 12),
            (",".join([str(2 * at) for at in range(12)] + ["x"]), 12),
            (",".join([str(2 * at) for at in range(12)]) + ",", 12),
            ("x" * 4000, 0), (",".join(["0"] * 2000), 1), ("," * 4000, 0), ("0-1,5-6 8", 1), ("\\", 0), ("0/1", 0),
        ]
        for text, place in rows:
            self.refused(read_set, text, place)

    def test_one_sign_put_in_left_out_or_exchanged(self):
        text = "0-1,5,70-99"
        for at in range(len(text) + 1):
            for sign in SIGNS + "\n":
                self.only_its_own(read_set, write_set, text[:at] + sign + text[at:])
                self.only_its_own(read_set, write_set, text[:at] + sign + text[at + 1:])
            self.only_its_own(read_set, write_set, text[:at] + text[at + 1:])
            self.only_its_own(read_set, write_set, text[:at] + text[at:at + 1] * 2 + text[at + 1:])


class Orders(Place):
    def test_by_hand(self):
        rows = [
            ("+0", [(0, True)]), ("-0", [(0, False)]), ("+0 -2 +1", [(0, True), (2, False), (1, True)]),
            ("-1 +0", [(1, False), (0, True)]), ("+0 +1 +2 +3 +4 +5 +6 +7", all_up(range(8))),
            ("-7 -6 -5 -4 -3 -2 -1 -0", [(column, False) for column in reversed(range(8))]),
        ]
        for text, order in rows:
            self.assertEqual(write_order(order), text)
            self.assertEqual(read_order(text), order)
            self.assertTrue(all([type(up) is bool for _, up in read_order(text)]))

    def test_back_and_forth(self):
        for many in (1, 2, 3, 4):
            for order in all_orders(many):
                self.assertEqual(read_order(write_order(order)), order)
        for columns in list(permutations(range(8)))[::997]:
            order = [(column, column % 3 == 0) for column in columns]
            self.assertEqual(read_order(write_order(order)), order)

    def test_each_text_of_few_signs(self):
        taken = 0
        for length in range(9):
            for signs in product("0+- " if length < 8 else "0+1 ", repeat=length):
                taken += self.only_its_own(read_order, write_order, "".join(signs))
        for words in product(("+0", "-0", "+1", "-1", "+2", "+3", ""), repeat=3):
            taken += self.only_its_own(read_order, write_order, " ".join(words))
        self.assertGreater(taken, 10)

    def test_places(self):
        rows = [
            ("", 0), (" ", 0), ("0", 0), ("+", 0), ("-", 0), ("+0 ", 1), (" +0", 0), ("+0  +1", 1), ("+0 +1 ", 2),
            ("+0\n", 0), ("\n+0", 0), ("+0\n+1", 0), ("+0 \n+1", 1), ("+00", 0), ("+01", 0), ("++0", 0), ("+-0", 0),
            ("+ 0", 0), ("+0,+1", 0), ("+a", 0), ("*0", 0), ("+8", 0), ("+9", 0), ("+10", 0), ("+0 +8", 1),
            ("+0 +10", 1),
            ("+0 +0", 1), ("+0 -0", 1), ("-1 +0 +1", 2), ("+1", 1), ("+7", 1), ("+0 +2", 2), ("+1 +2", 2),
            ("-3 +0 +1", 3),
            ("+0 +1 +2 +3 +4 +5 +7", 7), ("+1 +2 +3 +4 +5 +6 +7", 7), ("+0 +1 +2 +3 +4 +5 +6 +7 +8", 8),
            ("+0 +1 +2 +3 +4 +5 +6 +7 +0", 8), ("+0 +1 +2 +3 +4 +5 +6 +7 ", 8), ("+0 1", 1), ("+0 + 1", 1), ("0+", 0),
            ("+0 2 +0", 1), ("+0 +2 +2 x", 2), ("+0 +2 x", 2), ("+1_0", 0), ("+" + "9" * 60, 0), ("+" + "9" * 61, 0),
            ("+0:", 0), ("+0 in", 1), ("x" * 4000, 0), ("+0 " * 1000, 1), (" " * 4000, 0), ("+-", 0), ("--0", 0),
        ]
        for text, place in rows:
            self.refused(read_order, text, place)

    def test_one_sign_put_in_left_out_or_exchanged(self):
        text = "+0 -2 +1"
        for at in range(len(text) + 1):
            for sign in SIGNS + "\n":
                self.only_its_own(read_order, write_order, text[:at] + sign + text[at:])
                self.only_its_own(read_order, write_order, text[:at] + sign + text[at + 1:])
            self.only_its_own(read_order, write_order, text[:at] + text[at + 1:])
        words = text.split(" ")
        for at in range(len(words) + 1):
            self.only_its_own(read_order, write_order, " ".join(words[:at] + words[at + 1:]))
            self.only_its_own(read_order, write_order, " ".join(words[:at] + words[at:at + 1] * 2 + words[at + 1:]))


class Conditions(Place):
    def test_by_hand(self):
        rows = [
            ("0:3", ONE), ("7:-", ("in", 7, [])), ("not 0:3", ("not", ONE)), ("1:0-1,5-6", ("in", 1, [(0, 1), (5, 6)])),
            ("and 0:3 1:-", ("and", ONE, ("in", 1, []))), ("or 1:- 0:3", ("or", ("in", 1, []), ONE)),
            ("and and 0:3 1:- 2:20-49", ("and", ("and", ONE, ("in", 1, [])), ("in", 2, [(20, 49)]))),
            ("and 0:3 and 1:- 2:20-49", ("and", ONE, ("and", ("in", 1, []), ("in", 2, [(20, 49)])))),
            ("or not 0:3 not not 1:0", ("or", ("not", ONE), ("not", ("not", ("in", 1, [(0, 0)]))))),
            ("not or and 0:3 0:3 0:3", ("not", ("or", ("and", ONE, ONE), ONE))),
            (f"3:0-{HUGE - 1}", ("in", 3, [(0, HUGE - 1)])), ("not " * 19 + "0:3", deep(20)),
        ]
        for text, condition in rows:
            self.assertEqual(write_condition(condition), text)
            self.assertEqual(read_condition(text), condition)

    def test_back_and_forth(self):
        choose = Chooser(2)
        sizes = [3, 12, HUGE, 10 ** 9, 5, 1, 7, HUGE]
        for at in range(400):
            condition = some_condition(choose, sizes, 1 + at % 9)
            text = write_condition(condition)
            self.assertEqual(read_condition(text), condition)
            self.assertEqual(Diagram(sizes, all_up(range(8)), read_condition(text)),
                             Diagram(sizes, all_up(range(8)), condition))

    def test_each_text_of_few_words(self):
        taken = 0
        for length in range(6):
            for words in product(("not", "and", "or", "0:3", "1:-", "x"), repeat=length):
                taken += self.only_its_own(read_condition, write_condition, " ".join(words))
        self.assertGreater(taken, 100)

    def test_places(self):
        rows = [
            ("", 0), (" ", 0), ("\n", 0), ("0", 0), ("0:", 0), (":3", 0), (":", 0), ("0:3 ", 1), (" 0:3", 0),
            ("0:3\n", 0),
            ("\n0:3", 0), ("not\n0:3", 0), ("not", 1), ("and", 1), ("or", 1), ("and 0:3", 2), ("or not 0:3", 3),
            ("and 0:3 not", 3), ("not not", 2), ("and and 0:3 0:3", 4), ("0:3 0:3", 1), ("not 0:3 0:3", 2),
            ("and 0:3 1:- 2:-", 3), ("and 0:3 1:- not", 3), ("0:3 not", 1), ("not  0:3", 1), ("and 0:3  1:-", 2),
            ("and  0:3 1:-", 1), ("8:3", 0), ("9:-", 0), ("10:3", 0), ("00:3", 0), ("01:3", 0), ("+0:3", 0),
            ("-1:3", 0),
            ("a:3", 0), ("0:03", 0), ("0:3-3", 0), ("0:3-2", 0), ("0:0-1,2", 0), ("0:-,1", 0), ("0:1,-", 0),
            ("0:1,", 0),
            ("0:,1", 0), ("0: 3", 0), ("0 :3", 0), ("0:3:4", 0), ("0::3", 0), ("0;3", 0), (f"0:{HUGE}", 0),
            ("0:" + "9" * 61, 0),
            ("0:" + "9" * 60, 0), ("NOT 0:3", 0), ("Not 0:3", 0), ("nand 0:3 0:3", 0), ("in 0:3", 0), ("not x", 1),
            ("and x 0:3", 1), ("and 0:3 x", 2), ("and 0:3 8:3", 2), ("or 0:3 0:3,4", 2), ("not and 0:3 or 0:3", 5),
            ("(0:3)", 0), ("not(0:3)", 0), ("0:3,", 0), ("x" * 4000, 0), ("not " * 999, 20), (" " * 4000, 0),
            ("- 0:3", 0),
            ("0:3 and 1:-", 1), ("0:" + ",".join([str(2 * at) for at in range(13)]), 0), ("not: 0:3", 0), ("and:3", 0),
            ("0:--", 0), ("0:-1", 0), ("not not 0:3 1:- x", 3), ("0:3\nnot 0:3", 0),
        ]
        for text, place in rows:
            self.refused(read_condition, text, place)

    def test_twenty_and_twenty_one_levels(self):
        for levels in (19, 20):
            self.assertEqual(read_condition(write_condition(deep(levels))), deep(levels))
        for levels in (21, 22, 30):
            self.refused(read_condition, write_condition(deep(levels)), 20)
        self.refused(read_condition, " ".join(["not"] * 20), 20)
        self.refused(read_condition, " ".join(["not"] * 21), 20)
        self.refused(read_condition, " ".join(["not"] * 20 + ["x"]), 20)
        chain = "and 0:3 " * 3 + "not " * 16
        self.assertEqual(len(read_condition(chain + "0:3")), 3)
        self.refused(read_condition, chain + "not 0:3", 23)
        self.refused(read_condition, "and " + "not " * 19 + "0:3 0:3", 20)
        self.refused(read_condition, "and 0:3 " + "not " * 19 + "0:3", 21)
        self.refused(read_condition, "and " * 20 + "0:3", 20)
        deepest = "or " + "not " * 18 + "0:3 0:3"
        self.assertEqual(write_condition(read_condition(deepest)), deepest)

    def test_twelve_and_thirteen_words_of_the_first_kind(self):
        for word in ("and", "or"):
            self.assertEqual(read_condition(write_condition(wide(12, word))), wide(12, word))
            self.refused(read_condition, write_condition(wide(13, word)), 24)
            self.refused(read_condition, write_condition(wide(14, word)), 25)
        left = "and " * 11 + "0:3 " * 11 + "0:3"
        self.assertEqual(write_condition(read_condition(left)), left)
        self.refused(read_condition, "and " * 12 + "0:3 " * 12 + "0:3", 24)
        self.refused(read_condition, "and " * 12 + "0:3 " * 12 + "x", 24)
        self.refused(read_condition, "and " * 12 + "0:3 " * 11 + "0:3", 24)
        self.refused(read_condition, "and " * 12 + "0:3 " * 11 + "not 0:3 1:-", 25)
        self.refused(read_condition, left + " 0:3", 23)

    def test_one_sign_or_word_put_in_left_out_or_exchanged(self):
        text = "or and 0:0-1,5 1:- not 2:70"
        for at in range(len(text) + 1):
            for sign in SIGNS + "\n":
                self.only_its_own(read_condition, write_condition, text[:at] + sign + text[at:])
                self.only_its_own(read_condition, write_condition, text[:at] + sign + text[at + 1:])
            self.only_its_own(read_condition, write_condition, text[:at] + text[at + 1:])
        words = text.split(" ")
        taken = 0
        for at in range(len(words) + 1):
            for word in ("not", "and", "or", "3:1", "", "x"):
                taken += self.only_its_own(read_condition, write_condition, " ".join(words[:at] + [word] + words[at:]))
                taken += self.only_its_own(read_condition, write_condition,
                                           " ".join(words[:at] + [word] + words[at + 1:]))
            self.assertFalse(self.only_its_own(read_condition, write_condition,
                                               " ".join(words[:at] + words[at:] + words[:1])))
        self.assertGreater(taken, 5)

    def test_no_sizes_play_a_role(self):
        self.assertEqual(read_condition("7:999"), ("in", 7, [(999, 999)]))


class HowTheyAreCalled(Base):
    """Point 2."""

    def test_by_name(self):
        self.assertEqual(write_set(stretches=[(0, 1)]), "0-1")
        self.assertEqual(read_set(text="0-1"), [(0, 1)])
        self.assertEqual(write_order(order=[(0, False)]), "-0")
        self.assertEqual(read_order(text="-0"), [(0, False)])
        self.assertEqual(write_condition(condition=ONE), "0:3")
        self.assertEqual(read_condition(text="0:3"), ONE)
        self.exactly(InvalidText, read_set, text="")

    def test_new_lists_each_time(self):
        for read, text in ((read_set, "0-1,5"), (read_set, "-"), (read_order, "+0 -1")):
            first = read(text)
            kept = list(first)
            self.assertIs(type(first), list)
            first.append(None)
            self.assertEqual(read(text), kept)
        found = read_condition("and 0:- or 0:- not 0:-")
        lists = [found[1][2], found[2][1][2], found[2][2][1][2]]
        self.assertEqual(len({id(one) for one in lists + [read_condition("0:-")[2]]}), 4)
        for one in lists:
            one.append((1, 1))
        self.assertEqual(write_condition(found), "and 0:1 or 0:1 not 0:1")
        self.assertEqual(read_condition("0:-"), ("in", 0, []))

    def test_nothing_is_modified(self):
        stretches, order = [(0, 1), (5, 5)], [(1, False), (0, True)]
        condition = ("not", ("in", 0, stretches))
        for _ in range(2):
            write_set(stretches)
            write_order(order)
            write_condition(condition)
            self.assertEqual((stretches, order), ([(0, 1), (5, 5)], [(1, False), (0, True)]))
            self.assertEqual(condition, ("not", ("in", 0, [(0, 1), (5, 5)])))

    def test_kinds_of_values(self):
        for condition in (read_condition("0:1,3-4"), read_condition("and 0:1 not 1:-")):
            self.assertIs(type(condition), tuple)
        column, stretches = read_condition("0:1,3-4")[1:]
        self.assertEqual((type(column), type(stretches), type(stretches[0])), (int, list, tuple))

    def test_they_are_defined_here(self):
        for one in (write_set, read_set, write_order, read_order, write_condition, read_condition):
            self.assertEqual(one.__module__, texts.__name__)


if __name__ == "__main__":
    unittest.main()
