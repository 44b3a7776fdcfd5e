import unittest

from brute import HUGE, Base, Chooser, all_up, condition_of, example, line_of, some_condition, some_order
from scanranges import session as session_file
from scanranges.diagrams import Diagram
from scanranges.errors import AlreadyThere, InvalidNumber, NotThere, NothingToUndo, ScanError
from scanranges.session import session
from scanranges.stores import Store
from scanranges.tables import needed_answers
from scanranges.texts import write_condition, write_order

START = ["sizes 10 7 100", "index +0 +1 +2", "index +2 +0 +1"]
TABLE = ["put 3 0 21", "put 3 1 60", "put 3 5 19", "put 3 6 30", "put 4 0 0"]
FILTER = "and and 0:3 1:0-1,5-6 2:20-49"


def told(*lines):
    return session("\n".join(lines)).split("\n")


class Talks(Base):
    def told_behind(self, before, pairs):
        """Each line gives its answer, one after the other behind some lines that answer ok."""
        found = told(*before, *[line for line, _ in pairs])
        self.assertEqual(found[:len(before)], ["ok"] * len(before))
        for (line, answer), given in zip(pairs, found[len(before):]):
            with self.subTest(line=line):
                self.assertEqual(given, answer)
        self.assertEqual(len(found), len(before) + len(pairs))

    def each_behind(self, before, pairs):
        """Each line gives its answer, each for itself behind some lines that answer ok."""
        for line, answer in pairs:
            with self.subTest(line=line):
                self.assertEqual(told(*before, line), ["ok"] * len(before) + [answer])


class TheExample(Talks):
    def test_ranges_needed_answers_and_the_cheapest_index(self):
        self.told_behind(START + TABLE, [
            (f"ranges 0 {FILTER}", "4"), (f"ranges 1 {FILTER}", "60"), (f"cost 0 {FILTER}", "4"),
            (f"cost 1 {FILTER}", "3"), (f"cheapest {FILTER}", "1"),
            ("rows", "3,0,21 3,1,60 3,5,19 3,6,30 4,0,0"),
        ])

    def test_as_one_string(self):
        self.assertEqual(session("sizes 10 7 100\nindex +0 +1 +2\nput 3 0 21\nrows\n"), "ok\nok\nok\n3,0,21\n?")


class EachKindOfLine(Talks):
    def test_rows(self):
        self.told_behind(START, [
            ("rows", "-"), ("put 3 0 21", "ok"), ("put 3 0 21", "AlreadyThere"), ("rows", "3,0,21"),
            ("put 0 6 99", "ok"),
            ("rows", "0,6,99 3,0,21"), ("take 0 6 98", "NotThere"), ("take 0 6 99", "ok"), ("rows", "3,0,21"),
            ("take 3 0 21", "ok"), ("rows", "-"), ("take 3 0 21", "NotThere"),
        ])

    def test_keys(self):
        self.each_behind(START, [
            ("put 10 0 0", "InvalidKey"), ("put 0 7 0", "InvalidKey"), ("put 0 0 100", "InvalidKey"),
            ("put 0", "InvalidKey"),
            ("put 0 0", "InvalidKey"), ("put 0 0 0 0", "InvalidKey"), ("take 10 0 0", "InvalidKey"),
            ("take 0", "InvalidKey"),
            ("take 0 0 0 0 0 0 0 0 0 0", "InvalidKey"), ("put 0 0 " + "9" * 60, "InvalidKey"), ("put 9 6 99", "ok"),
            ("put", "?"), ("take", "?"), ("put 0 0 x", "?"), ("put 0 0 01", "?"), ("put 0 0 -1", "?"),
            ("put 0 0 +1", "?"),
            ("put 0 0 00", "?"), ("put 0 0 1_0", "?"), ("put 0 0 " + "9" * 61, "?"), ("put 0,0,0", "?"),
            ("put (0 0 0)", "?"),
            ("put 0 0 1.0", "?"), ("take 0 0 x", "?"), ("put x 0 0 0 0 0", "?"), ("put -", "?"),
        ])

    def test_undo_mark_and_back(self):
        self.told_behind(START, [
            ("undo", "NothingToUndo"), ("mark", "0"), ("undo", "NothingToUndo"), ("put 1 1 1", "ok"), ("mark", "1"),
            ("put 2 2 2", "ok"), ("take 1 1 1", "ok"), ("mark", "2"), ("rows", "2,2,2"), ("undo", "ok"),
            ("rows", "1,1,1 2,2,2"), ("back 2", "InvalidNumber"), ("back 1", "ok"), ("rows", "1,1,1"), ("mark", "2"),
            ("back 0", "ok"), ("rows", "-"), ("back 1", "InvalidNumber"), ("undo", "NothingToUndo"), ("back 0", "ok"),
            ("put 1 1 1", "ok"), ("undo", "ok"), ("mark", "1"),
        ])

    def test_ranges_and_cost(self):
        self.each_behind(START + TABLE, [
            ("ranges 0 0:3", "1"), ("ranges 1 0:3", "100"), ("ranges 0 0:-", "0"), ("cost 0 0:-", "0"),
            ("ranges 0 not 0:-", "1"),
            ("cost 0 0:3", "5"), ("cost 1 0:3", "6"), ("cost 0 not 0:-", "6"), ("ranges 0 2:5", "70"),
            ("ranges 1 or 2:5 2:7", "2"), ("cost 1 2:5", "1"), ("cost 1 2:99", "1"), ("cost 0 0:9", "1"),
        ])

    def test_wrong_indexes_and_texts(self):
        rows = []
        for word in ("ranges", "cost"):
            rows.extend([
                (f"{word} 2 0:3", "InvalidNumber"), (f"{word} 6 0:3", "InvalidNumber"), (f"{word} " + "9" * 60 + " 0:3",
                                                                                        "InvalidNumber"),
                (f"{word} 2 3:0", "InvalidNumber"), (f"{word} 0 3:0", "InvalidCondition"),
                (f"{word} 0 1:7", "InvalidCondition"),
                (f"{word} 0 not 1:6-7", "InvalidCondition"), (f"{word} 0 7:-", "InvalidCondition"),
                (f"{word} 0 and 0:3", "InvalidText"), (f"{word} 0 x", "InvalidText"), (f"{word} 0 0:03", "InvalidText"),
                (f"{word} 2 x", "InvalidText"), (f"{word} 9 0:3 0:3", "InvalidText"), (f"{word} 0 8:3", "InvalidText"),
                (f"{word} 0 0:3-3", "InvalidText"), (f"{word} 0 +0", "InvalidText"), (f"{word} 0 0", "InvalidText"),
                (f"{word} 0 3:0 x", "InvalidText"), (f"{word} 0", "?"), (word, "?"), (f"{word} 0:3", "?"),
                (f"{word} x 0:3", "?"),
                (f"{word} +0 0:3", "?"), (f"{word} -1 0:3", "?"), (f"{word} 00 0:3", "?"), (f"{word} 01 0:3", "?"),
                (f"{word} 0:3 0", "?"), (f"{word} " + "1" * 61 + " 0:3", "?"), (f"{word} x x", "?"),
                (f"{word} 1_0 x", "?"),
            ])
        self.each_behind(START + TABLE, rows)

    def test_cheapest(self):
        self.each_behind(START + TABLE, [
            ("cheapest 0:3", "0"), (f"cheapest {FILTER}", "1"), ("cheapest 2:5", "1"), ("cheapest 0:-", "0"),
            ("cheapest not 0:-", "0"), ("cheapest", "?"), ("cheapest x", "InvalidText"), ("cheapest 0", "InvalidText"),
            ("cheapest and 0:3", "InvalidText"), ("cheapest 0 0:3", "InvalidText"),
            ("cheapest 3:-", "InvalidCondition"),
            ("cheapest 1:0,7", "InvalidCondition"), ("cheapest 1:0,7 x", "InvalidText"),
        ])

    def test_single_words_with_more_behind_them(self):
        self.each_behind(START, [
            ("rows 0", "?"), ("undo 0", "?"), ("mark 0", "?"), ("rows x", "?"), ("undo undo", "?"), ("mark mark", "?"),
            ("back", "?"), ("back 0 0", "?"), ("back x", "?"), ("back 00", "?"), ("back -1", "?"), ("back +0", "?"),
            ("back " + "9" * 61, "?"), ("back " + "9" * 60, "InvalidNumber"), ("back 0", "InvalidNumber"),
            ("back 0 x", "?"),
        ])

    def test_unknown_words(self):
        self.each_behind(START, [(line, "?") for line in (
            "x", "Rows", "ROWS", "row", "sizes:", "put:", "size 3", "indexes +0", "help", "?", "ok", "-", "0",
            "3 0 21", "+0",
            "0:3", "not 0:3", "answer 0:3", "costs 0 0:3", "undo_to 0", "listed", "len", "twin", "ranges0 0:3",
            "rows.", "mark,",
        )])


class Sizes(Talks):
    def test_right_and_wrong(self):
        self.each_behind([], [
            ("sizes 1", "ok"), ("sizes 10 7 100", "ok"), (f"sizes {HUGE}", "ok"), ("sizes" + " 5" * 8, "ok"),
            ("sizes" + " 5" * 9, "InvalidSizes"), ("sizes 0", "InvalidSizes"), ("sizes 5 0", "InvalidSizes"),
            (f"sizes {HUGE + 1}", "InvalidSizes"), ("sizes " + "9" * 60, "InvalidSizes"),
            ("sizes" + " 5" * 100, "InvalidSizes"),
            ("sizes", "?"), ("sizes x", "?"), ("sizes 5 x", "?"), ("sizes 05", "?"), ("sizes -5", "?"),
            ("sizes +5", "?"),
            ("sizes 1_0", "?"), ("sizes " + "9" * 61, "?"), ("sizes 5,5", "?"), ("sizes 0 x", "?"), ("sizes 5 ", "?"),
            (" sizes 5", "?"),
        ])

    def test_a_new_sizes_line(self):
        self.told_behind(START + TABLE, [
            ("sizes 0", "InvalidSizes"), ("sizes x", "?"), ("rows", "3,0,21 3,1,60 3,5,19 3,6,30 4,0,0"),
            ("ranges 1 0:3", "100"),
            ("mark", "0"), ("sizes 5", "ok"), ("rows", "?"), ("undo", "?"), ("mark", "?"), ("back 0", "?"),
            ("put 1", "?"),
            ("take 1", "?"), ("ranges 0 0:3", "?"), ("ranges 0 x", "?"), ("cost 0 0:3", "?"), ("cheapest x", "?"),
            ("index +0 +1 +2", "InvalidOrder"), ("rows", "?"), ("index x", "InvalidText"), ("rows", "?"),
            ("index -0", "ok"),
            ("rows", "-"), ("undo", "NothingToUndo"), ("mark", "0"), ("ranges 0 0:3", "1"),
            ("ranges 1 0:3", "InvalidNumber"),
            ("put 1", "ok"), ("put 4", "ok"), ("rows", "4 1"), ("sizes 5", "ok"), ("index +0", "ok"), ("rows", "-"),
        ])

    def test_before_the_first_sizes_line(self):
        lines = ["rows", "undo", "mark", "back 0", "put 0", "take 0", "index +0", "index x", "index", "ranges 0 0:0",
                 "cost 0 x",
                 "cheapest 0:0", "cheapest x", "x", "", "sizes", "sizes x"]
        self.told_behind([], [(line, "?") for line in lines])
        self.told_behind([], [("sizes 0", "InvalidSizes"), ("index +0", "?"), ("rows", "?"), ("sizes 5", "ok"),
                              ("index +0", "ok"),
                              ("rows", "-")])

    def test_before_the_first_index_line(self):
        self.told_behind(["sizes 10 7"], [
            ("rows", "?"), ("undo", "?"), ("mark", "?"), ("back 0", "?"), ("put 0 0", "?"), ("put 10 0", "?"),
            ("take 0 0", "?"),
            ("ranges 0 0:0", "?"), ("ranges 0 x", "?"), ("cost 0 0:0", "?"), ("cheapest 0:0", "?"), ("cheapest x", "?"),
            ("index", "?"), ("index +0", "InvalidOrder"), ("rows", "?"), ("index +0 +2", "InvalidText"), ("rows", "?"),
            ("index +1 -0", "ok"), ("rows", "-"), ("mark", "0"),
        ])


class Indexes(Talks):
    def test_right_and_wrong(self):
        self.each_behind(["sizes 10 7 100"], [
            ("index +0 +1 +2", "ok"), ("index -2 -1 -0", "ok"), ("index", "?"), ("index +0 +1", "InvalidOrder"),
            ("index +0", "InvalidOrder"), ("index +0 +1 +2 +3", "InvalidOrder"), ("index +0 +1 +1", "InvalidText"),
            ("index 0 1 2", "InvalidText"), ("index x", "InvalidText"), ("index +0 +2", "InvalidText"),
            ("index +8", "InvalidText"),
            ("index +0 +1 +2 ", "?"), ("index  +0 +1 +2", "?"), ("index +0,+1,+2", "InvalidText"),
            ("index 0:3", "InvalidText"),
        ])

    def test_the_seventh(self):
        lines = ["sizes 5 5"] + ["index +0 +1", "index +1 +0"] * 3
        self.told_behind(lines, [
            ("put 1 2", "ok"), ("mark", "0"), ("index +0 +1", "InvalidOrder"), ("index +0", "InvalidOrder"),
            ("index x", "InvalidText"),
            ("index", "?"), ("ranges 5 1:1", "1"), ("ranges 4 1:1", "5"), ("ranges 6 1:1", "InvalidNumber"),
            ("mark", "1"),
            ("undo", "ok"), ("rows", "-"),
        ])

    def test_the_rows_stay_and_what_can_be_undone_and_the_marks_go(self):
        self.told_behind(["sizes 5 5", "index +0 +1", "put 3 0", "put 1 4"], [
            ("mark", "0"), ("take 3 0", "ok"), ("index +1 +0 +2", "InvalidOrder"), ("index y", "InvalidText"),
            ("mark", "1"),
            ("index +1 +0", "ok"), ("rows", "1,4"), ("undo", "NothingToUndo"), ("back 0", "InvalidNumber"),
            ("mark", "0"),
            ("put 3 0", "ok"), ("put 1 4", "AlreadyThere"), ("rows", "1,4 3,0"), ("back 0", "ok"), ("rows", "1,4"),
            ("cost 1 1:0-3", "1"), ("cost 0 1:0-3", "2"), ("cheapest 1:0-3", "1"), ("take 1 4", "ok"), ("undo", "ok"),
            ("rows", "1,4"),
        ])

    def test_the_same_order_twice(self):
        self.told_behind(["sizes 5", "index +0", "index +0", "put 2"], [
            ("cheapest 0:2", "0"), ("cost 0 0:2", "1"), ("cost 1 0:2", "1"), ("rows", "2")])

    def test_listed_by_the_first_order(self):
        self.told_behind(["sizes 3 3", "index -1 +0", "index +0 +1", "put 0 0", "put 2 1", "put 1 1", "put 0 2"], [
            ("rows", "0,2 1,1 2,1 0,0"), ("index +0 -1", "ok"), ("rows", "0,2 1,1 2,1 0,0")])


class Blanks(Talks):
    def test_empty_words(self):
        lines = ["", " ", "  ", " rows", "rows ", "rows  ", "put  1 1 1", "put 1  1 1", "put 1 1 1 ", "ranges  0 0:3",
                 "ranges 0  0:3",
                 "ranges 0 not  0:3", "ranges 0 x  x", "index +0 +1  +2", "sizes  5", "sizes 5  5", " sizes 5",
                 "back  0", "mark ",
                 "x  y", "cheapest  x", "cheapest x ", " undo"]
        self.each_behind(START, [(line, "?") for line in lines])
        self.each_behind([], [(line, "?") for line in lines])

    def test_one_answer_for_each_line(self):
        self.assertEqual(session(""), "?")
        self.assertEqual(session("\n"), "?\n?")
        self.assertEqual(session("\n\n\n"), "?\n?\n?\n?")
        self.assertEqual(session("sizes 5\n"), "ok\n?")
        self.assertEqual(session("\nsizes 5\n\nindex +0\n"), "?\nok\n?\nok\n?")
        for many in (1, 2, 50, 199, 200):
            self.assertEqual(session("\n".join(["sizes 5"] * many)), "\n".join(["ok"] * many))

    def test_each_session_begins_anew(self):
        self.assertEqual(session("sizes 5\nindex +0\nput 1\nrows"), "ok\nok\nok\n1")
        self.assertEqual(session("rows"), "?")


class GreatNumbers(Talks):
    def test_answers_have_no_limit_of_digits(self):
        sizes = " ".join([str(HUGE)] * 8)
        order = " ".join([f"+{column}" for column in range(8)])
        self.told_behind([f"sizes {sizes}", f"index {order}"], [
            ("ranges 0 7:5", str(HUGE ** 7)), ("ranges 0 0:5", "1"), ("cost 0 7:5", "1"),
            (f"put {' '.join([str(HUGE - 1)] * 8)}", "ok"), ("rows", ",".join([str(HUGE - 1)] * 8)),
            ("cost 0 7:5", "1"),
            (f"ranges 0 7:{HUGE}", "InvalidText"), (f"ranges 0 7:{HUGE - 1}", str(HUGE ** 7)),
        ])

    def test_limits_of_a_filter(self):
        twelve = ",".join([str(2 * at) for at in range(12)])
        wide = "or 0:1 " * 11 + "0:1"
        self.each_behind(START, [
            (f"ranges 1 2:{twelve}", "12"), (f"ranges 1 2:{twelve},24", "InvalidText"), (f"ranges 0 {wide}", "1"),
            (f"ranges 0 or 0:1 {wide}", "InvalidText"), ("ranges 0 " + "not " * 19 + "0:3", "2"),
            ("ranges 0 " + "not " * 20 + "0:3", "InvalidText"),
        ])


class BesideAStore(Talks):
    """Whole sessions against a store that is used by its methods."""

    def key_text(self, key):
        return ",".join([str(value) for value in key])

    def answer(self, call):
        try:
            found = call()
        except ScanError as error:
            return type(error).__name__
        return "ok" if found is None else str(found)

    def test_many_lines(self):
        choose = Chooser(7)
        seen = []
        for _ in range(60):
            sizes = choose.one(([4], [3, 3], [2, 1, 3]))
            orders = [some_order(choose, len(sizes)) for _ in range(choose.one((1, 2, 3)))]
            store = Store(sizes, orders)
            lines = ["sizes " + " ".join([str(size) for size in sizes])]
            lines.extend([f"index {write_order(one)}" for one in orders])
            expected = ["ok"] * len(lines)
            for _ in range(60):
                line, call = self.some_line(choose, sizes, orders, store)
                lines.append(line)
                expected.append(self.answer(call))
            self.assertEqual(told(*lines), expected)
            seen.extend(expected)
        for word in ("ok", "0", "1", "2", "-", AlreadyThere.__name__, NotThere.__name__, NothingToUndo.__name__,
                     InvalidNumber.__name__):
            self.assertIn(word, seen)

    def some_line(self, choose, sizes, orders, store):
        word = choose.one(("put", "put", "put", "take", "undo", "mark", "back", "rows", "ranges", "cost", "cheapest"))
        if word in ("put", "take"):
            key = choose.one(line_of(sizes, orders[0]))
            call = (lambda: store.put(key)) if word == "put" else (lambda: store.take(key))
            return f"{word} {' '.join([str(value) for value in key])}", call
        if word == "back":
            index = choose.one(range(4))
            return f"back {index}", lambda: store.undo_to(index)
        if word == "rows":
            return "rows", lambda: " ".join([self.key_text(key) for key in store.listed()]) or "-"
        if word in ("undo", "mark"):
            return word, store.undo if word == "undo" else store.mark
        condition = some_condition(choose, sizes, choose.one((1, 2, 4)))
        if word == "cheapest":
            return f"cheapest {write_condition(condition)}", lambda: store.cheapest(condition, [], None)
        index = choose.one(range(len(orders)))
        diagram = Diagram(sizes, orders[index], condition)
        call = (lambda: diagram.range_total) if word == "ranges" else (lambda: len(needed_answers(diagram,
                                                                                                  store.listed())))
        return f"{word} {index} {write_condition(condition)}", call

    def test_the_example_against_the_store(self):
        store = Store([10, 7, 100], [all_up([0, 1, 2]), all_up([2, 0, 1])])
        condition = condition_of(example())
        for line in TABLE:
            store.put(tuple([int(word) for word in line.split(" ")[1:]]))
        found = told(*START, *TABLE, *[f"cost {index} {write_condition(condition)}" for index in (0, 1)])
        self.assertEqual([int(one) for one in found[-2:]], [one for _, one, _ in store.costs(condition, [], None)])


class HowItIsCalled(Base):
    """Point 2."""

    def test_by_name(self):
        self.assertEqual(session(rows="sizes 5"), "ok")
        self.assertIs(type(session("")), str)

    def test_it_is_defined_here(self):
        self.assertEqual(session.__module__, session_file.__name__)

    def test_equal_calls_return_equal_results(self):
        rows = "\n".join(START + TABLE + [f"cheapest {FILTER}", "rows", "mark", "undo", "index -0 -1 -2", "rows"])
        self.assertEqual(session(rows), session(rows))


if __name__ == "__main__":
    unittest.main()
