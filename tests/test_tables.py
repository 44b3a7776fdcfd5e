import unittest
from itertools import product

from brute import (HUGE, Base, Chooser, all_orders, all_up, condition_of, example, holds, kept_on, line_of, needed_on,
                   odd_objects, position, runs_on, some_condition, some_keys, some_order, spread)
from scanranges import tables
from scanranges.diagrams import Diagram
from scanranges.errors import InvalidBoxes, InvalidKey, InvalidNumber, InvalidTable, TooMany
from scanranges.tables import (batch, first_answers, least_cost, matches, needed_answers, questions, shows_enough,
                               worst_table)

NO_KEYS = ("in", 0, [])
SIXTY = 10 ** 60 - 1
SMALL = ([1], [5], [3, 3], [2, 4], [1, 3, 2], [3, 2, 3], [2, 2, 2, 2])
TABLE = [(3, 0, 21), (3, 1, 60), (3, 5, 19), (3, 6, 30), (4, 0, 0)]


def example_diagram(columns=(0, 1, 2)):
    return Diagram([10, 7, 100], all_up(columns), condition_of(example()))


def chosen(start, many, most_keys=9):
    """Some small filters with a table each, and the whole line."""
    choose = Chooser(start)
    for at in range(many):
        sizes = choose.one(SMALL)
        order = some_order(choose, len(sizes))
        condition = some_condition(choose, sizes, 1 + at % 6)
        line = line_of(sizes, order)
        yield Diagram(sizes, order, condition), condition, line, some_keys(choose, line, most_keys)


def answer_to(line, keys, asked):
    """What a table answers: the least of its keys from the asked one on, or None."""
    place = {key: at for at, key in enumerate(line)}
    behind = sorted([place[key] for key in keys if place[key] >= place[asked]])
    return line[behind[0]] if behind else None


def cheapest_way(line, keys, needed, price):
    """The least cost over all ways: at each needed answer either a question, or steps from the answer before."""
    rows = [key for key in line if key in keys] + [None]
    if not needed:
        return 0
    best = None
    for chosen_ones in product((True, False), repeat=len(needed) - 1):
        cost = price
        for asked, before, answer in zip(chosen_ones, needed, needed[1:]):
            cost += price if asked else rows.index(answer) - rows.index(before)
        best = cost if best is None else min(best, cost)
    return best


class AgainstTheDefinition(Base):
    """Points 4 (R3) and 13, key by key."""

    def test_matches_and_needed_answers(self):
        for diagram, condition, line, keys in chosen(1, 900):
            kept = kept_on(line, condition)
            told = (diagram.sizes, diagram.order, condition, keys)
            self.assertEqual(matches(diagram, keys), [key for key in kept if key in keys], told)
            self.assertEqual(needed_answers(diagram, keys), needed_on(line, keys, kept), told)

    def test_questions(self):
        for diagram, condition, line, keys in chosen(2, 700):
            kept = kept_on(line, condition)
            expected = []
            at = 0
            while at < len(kept):
                answer = answer_to(line, keys, kept[at])
                expected.append((kept[at], answer))
                behind = len(line) if answer is None else line.index(answer) + 1
                at = len([key for key in kept if line.index(key) < behind])
            self.assertEqual(list(questions(diagram, keys)), expected)
            self.assertLessEqual(len(expected), len(matches(diagram, keys)) + diagram.range_total)

    def test_needed_answers_are_needed(self):
        # Without a needed key, or with one more where the end is needed, all other answers stay what they were.
        checked = 0
        for diagram, condition, line, keys in chosen(3, 250, 5):
            kept = kept_on(line, condition)
            place = {key: at for at, key in enumerate(line)}
            for answer in needed_answers(diagram, keys):
                ahead = [place[key] for key in keys if answer is None or place[key] < place[answer]]
                start = max(ahead, default=-1) + 1
                end = len(line) if answer is None else place[answer] + 1
                between = [key for key in kept if start <= place[key] < end]
                self.assertTrue(between)
                if answer is not None and answer in kept:
                    other = [key for key in keys if key != answer]
                else:
                    other = keys + [between[0]]
                self.assertNotEqual(sorted(matches(diagram, other)), sorted(matches(diagram, keys)))
                # Only what is asked from behind the key before, up to this answer, is answered in another way.
                for asked in line[:start] + line[end:]:
                    self.assertEqual(answer_to(line, keys, asked), answer_to(line, other, asked))
                checked += 1
        self.assertGreater(checked, 300)

    def test_as_many_as_matches_and_ranges(self):
        for diagram, _, _, keys in chosen(4, 400):
            self.assertLessEqual(len(needed_answers(diagram, keys)), len(matches(diagram, keys)) + diagram.range_total)

    def test_tables_of_each_kind(self):
        for diagram, condition, line, _ in chosen(5, 200):
            kept = kept_on(line, condition)
            others = [key for key in line if key not in kept]
            self.assertEqual(needed_answers(diagram, []), [None] if kept else [])
            self.assertEqual((matches(diagram, []), matches(diagram, others[::-1])), ([], []))
            self.assertEqual(matches(diagram, line[::-1]), kept)
            self.assertEqual(needed_answers(diagram, line[::-1]), kept)
            self.assertEqual(len(needed_answers(diagram, others)), diagram.range_total)
            self.assertEqual(needed_answers(diagram, kept), kept)
            self.assertEqual(list(questions(diagram, line)), [(key, key) for key in kept])

    def test_filters_without_keys_and_with_all(self):
        for sizes in SMALL:
            for order in all_orders(len(sizes))[::7]:
                line = line_of(sizes, order)
                keys = line[-2::-3]
                none, full = Diagram(sizes, order, NO_KEYS), Diagram(sizes, order, ("not", NO_KEYS))
                self.assertEqual((matches(none, keys), needed_answers(none, keys)), ([], []))
                self.assertEqual(list(questions(none, keys)), [])
                self.assertEqual(matches(full, keys), keys[::-1])
                ends = [] if keys and keys[0] == line[-1] else [None]
                self.assertEqual(needed_answers(full, keys), keys[::-1] + ends)

    def test_kinds_of_values(self):
        diagram = example_diagram()
        for found in (matches(diagram, TABLE), needed_answers(diagram, TABLE),
                      first_answers(diagram, TABLE, (0, 0, 0), 2),
                      worst_table(diagram)):
            self.assertIs(type(found), list)
            self.assertTrue(all([one is None or type(one) is tuple for one in found]))
        for one in questions(diagram, TABLE):
            self.assertEqual((type(one), type(one[0]), type(one[1])), (tuple, tuple, tuple))
        self.assertEqual([type(one) for one in batch([diagram], TABLE)], [int, int])
        self.assertIs(type(least_cost(diagram, TABLE, 3)), int)


class TheExample(Base):
    def test_in_its_order(self):
        diagram = example_diagram()
        needed = [(3, 0, 21), (3, 1, 60), (3, 6, 30), (4, 0, 0)]
        for keys in (TABLE, TABLE[::-1], TABLE[2:] + TABLE[:2]):
            self.assertEqual(needed_answers(diagram, keys), needed)
            self.assertEqual(matches(diagram, keys), [(3, 0, 21), (3, 6, 30)])
            self.assertEqual(least_cost(diagram, keys, 3), 7)
            self.assertEqual(first_answers(diagram, keys, (0, 0, 0), 1), needed[:1])
            self.assertEqual(first_answers(diagram, keys, (0, 0, 0), 2), needed[:3])
            self.assertEqual(list(questions(diagram, keys)),
                             list(zip([(3, 0, 20), (3, 0, 22), (3, 5, 20), (3, 6, 31)], needed)))

    def test_in_another_order(self):
        diagram = example_diagram((2, 0, 1))
        self.assertEqual(needed_answers(diagram, TABLE), [(3, 0, 21), (3, 6, 30), (3, 1, 60)])
        self.assertEqual(matches(diagram, TABLE), [(3, 0, 21), (3, 6, 30)])

    def test_costs(self):
        costs = [least_cost(example_diagram(), TABLE, price) for price in (0, 1, 2, 3, 4, SIXTY)]
        self.assertEqual(costs, [0, 4, 6, 7, 8, SIXTY + 4])


class GreatColumns(Base):
    def test_against_positions(self):
        choose = Chooser(51)
        for at in range(60):
            sizes = [choose.one((HUGE, 10 ** 9, HUGE, 7, 1)) for _ in range(1 + at % 8)]
            order = some_order(choose, len(sizes))
            condition = some_condition(choose, sizes, 1 + at % 6)
            diagram = Diagram(sizes, order, condition)
            values = [[0, size - 1, size // 2, size // 3, min(10 ** 6, size - 1), min(6, size - 1)] for size in sizes]
            keys = sorted({tuple([choose.one(row) for row in values]) for _ in range(1 + at * 6)})
            found = needed_answers(diagram, keys)
            rows = sorted(keys, key=lambda key: position(sizes, order, key))
            expected = []
            before = 0
            for row in rows:
                upto = diagram.key_index(row) + holds(condition, row)
                if upto > before:
                    expected.append(row)
                before = upto
            self.assertEqual(found, expected + [None] if before < diagram.total else expected)
            self.assertEqual(matches(diagram, keys), [row for row in rows if holds(condition, row)])
            asked = list(questions(diagram, keys))
            self.assertEqual([answer for _, answer in asked], found)
            self.assertTrue(all([holds(condition, one) for one, _ in asked]))
            self.assertIs(shows_enough(diagram, keys, [one for one, _ in asked]), True)
            self.assertLessEqual(len(found), len(matches(diagram, keys)) + diagram.range_total)

    def test_four_hundred_keys(self):
        sizes = [HUGE, HUGE]
        diagram = Diagram(sizes, [(1, False), (0, True)], ("and", ("in", 0, [(0, 99)]), ("not", ("in", 1, [(7, 9)]))))
        keys = [(at % 3 * 50, at) for at in range(400)]
        found = needed_answers(diagram, keys)
        inside = [key for key in keys if key[0] < 100 and not 7 <= key[1] <= 9]
        self.assertEqual(matches(diagram, keys), inside[::-1])
        self.assertEqual([key for key in found if key in inside], inside[::-1])
        self.assertIs(shows_enough(diagram, keys, [asked for asked, _ in questions(diagram, keys)]), True)
        self.assertEqual(least_cost(diagram, keys, 0), 0)
        self.assertEqual(least_cost(diagram, keys, 1), len(found))


class Enough(Base):
    def covered(self, line, keys, thing):
        found = []
        for asked in thing:
            answer = answer_to(line, keys, asked)
            end = len(line) if answer is None else line.index(answer) + 1
            found.extend(line[line.index(asked):end])
        return found

    def test_against_the_definition(self):
        choose = Chooser(61)
        answers = []
        for diagram, condition, line, keys in chosen(6, 900, 5):
            thing = [choose.one(line) for _ in range(choose.one(range(5)))]
            if choose.one((True, False)):
                thing = thing + [asked for asked, _ in questions(diagram, keys)]
            covered = self.covered(line, keys, thing)
            expected = all([key in covered for key in kept_on(line, condition)])
            self.assertIs(shows_enough(diagram, keys, thing), expected, (diagram.order, condition, keys, thing))
            answers.append(expected)
        self.assertGreater(min(answers.count(True), answers.count(False)), 100)

    def test_the_questions_are_enough_and_each_is_needed(self):
        for diagram, _, line, keys in chosen(7, 300):
            asked = [one for one, _ in questions(diagram, keys)]
            self.assertIs(shows_enough(diagram, keys, asked), True)
            self.assertIs(shows_enough(diagram, keys, asked[::-1] + asked), True)
            self.assertIs(shows_enough(diagram, keys, line), True)
            for at in range(len(asked)):
                self.assertIs(shows_enough(diagram, keys, asked[:at] + asked[at + 1:]), False)

    def test_no_question(self):
        self.assertIs(shows_enough(Diagram([3, 2], all_up([0, 1]), NO_KEYS), [(0, 0)], []), True)
        self.assertIs(shows_enough(Diagram([3, 2], all_up([0, 1]), NO_KEYS), [], [(2, 1), (0, 0), (2, 1)]), True)
        self.assertIs(shows_enough(example_diagram(), TABLE, []), False)

    def test_keys_beside_the_filter(self):
        diagram = example_diagram()
        self.assertIs(shows_enough(diagram, TABLE, [(0, 0, 0), (3, 0, 22), (3, 5, 19), (3, 5, 20), (3, 6, 31)]), True)
        self.assertIs(shows_enough(diagram, TABLE, [(0, 0, 0), (3, 1, 0), (3, 5, 20), (3, 6, 31)]), False)
        self.assertIs(shows_enough(diagram, TABLE, [(0, 0, 0), (3, 0, 22), (3, 5, 20), (3, 6, 31)]), True)
        self.assertIs(shows_enough(diagram, TABLE, [(0, 0, 0), (3, 0, 22), (3, 5, 20), (3, 6, 32)]), False)
        self.assertIs(shows_enough(diagram, [], [(3, 0, 20)]), True)
        self.assertIs(shows_enough(diagram, [], [(3, 0, 21)]), False)

    def test_what_is_no_list_of_keys(self):
        diagram = example_diagram()
        good = [asked for asked, _ in questions(diagram, TABLE)]
        bad = [
            tuple(good), good + [None], good + [(3, 0)], good + [(3, 0, 100)], good + [(10, 0, 0)], good + [(-1, 0, 0)],
            good + [(3, False, 20)], good + [(True, 0, 20)], good + [[3, 0, 20]], good + [()], good + [good], [good],
            good + [3], good + ["key"], {"a": good}, None, 0, True, "", (), diagram, [diagram], good + [True],
            [list(one) for one in good],
        ]
        for thing in bad + [one for one in odd_objects() if one not in ([], [(0, 1, 2)])]:
            with self.subTest(thing=thing):
                self.assertIs(shows_enough(diagram, TABLE, thing), False)
                self.assertIs(shows_enough(Diagram([10, 7, 100], all_up([0, 1, 2]), NO_KEYS), TABLE, thing), False)

    def test_many_keys(self):
        diagram = example_diagram()
        self.assertIs(shows_enough(diagram, TABLE, [(3, 0, value) for value in range(20, 50)] * 100), False)
        line = line_of([10, 7, 100], all_up([0, 1, 2]))
        self.assertIs(shows_enough(diagram, TABLE, line[3998::-1]), True)


class WorstTables(Base):
    def test_one_key_from_each_gap(self):
        for diagram, condition, line, _ in chosen(8, 500):
            runs = runs_on(line, kept_on(line, condition))
            found = worst_table(diagram)
            place = {key: at for at, key in enumerate(line)}
            self.assertEqual(len(found), max(0, len(runs) - 1))
            for key, before, behind in zip(found, runs, runs[1:]):
                self.assertTrue(place[before[-1]] < place[key] < place[behind[0]])
            self.assertEqual(len(needed_answers(diagram, found)), len(runs))
            self.assertEqual(matches(diagram, found), [])

    def test_fewer_than_two_ranges(self):
        for condition in (NO_KEYS, ("not", NO_KEYS), ("in", 0, [(1, 2)])):
            diagram = Diagram([5, 2], all_up([0, 1]), condition)
            self.assertEqual(worst_table(diagram), [])

    def test_401_and_402_ranges(self):
        for many in (400, 401):
            diagram = Diagram([many, 3], all_up([0, 1]), ("in", 1, [(1, 1)]))
            found = worst_table(diagram)
            self.assertEqual((diagram.range_total, len(found)), (many, many - 1))
            self.assertEqual(len(needed_answers(diagram, found)), many)
        for many in (402, 403, HUGE):
            for order in (all_up([0, 1]), [(0, False), (1, True)]):
                self.exactly(TooMany, worst_table, Diagram([many, 3], order, ("in", 1, [(1, 1)])))

    def test_the_example_and_great_columns(self):
        self.assertEqual(len(worst_table(example_diagram())), 3)
        diagram = Diagram([HUGE] * 3, [(2, False), (0, True), (1, True)], ("in", 2, spread(12, 0, 10 ** 28)))
        found = worst_table(diagram)
        self.assertEqual(len(found), 11)
        self.assertEqual([key in diagram for key in found], [False] * 11)
        self.assertEqual([diagram.key_index(key) for key in found], [HUGE ** 2 * at for at in range(1, 12)])
        self.assertEqual(len(needed_answers(diagram, found)), 12)

    def test_other_conditions_for_the_same_keys(self):
        one, other = ("in", 0, [(1, 1), (3, 3)]), ("not", ("in", 0, [(0, 0), (2, 2), (4, 4)]))
        for order in all_orders(2):
            first, second = Diagram([5, 2], order, one), Diagram([5, 2], order, other)
            self.assertEqual(worst_table(first), worst_table(second))
            self.assertEqual(worst_table(first), worst_table(~~first))


class LeastCosts(Base):
    def test_all_ways(self):
        for diagram, condition, line, keys in chosen(9, 500, 8):
            needed = needed_on(line, keys, kept_on(line, condition))
            for price in (0, 1, 2, 3, 5, 100, SIXTY):
                self.assertEqual(least_cost(diagram, keys, price), cheapest_way(line, keys, needed, price))

    def test_nothing_is_needed(self):
        for price in (0, 1, 3, SIXTY):
            self.assertEqual(least_cost(Diagram([3, 2], all_up([0, 1]), NO_KEYS), [(0, 0), (1, 1)], price), 0)

    def test_the_end_alone(self):
        for price in (0, 1, 3, SIXTY):
            self.assertEqual(least_cost(Diagram([3, 2], all_up([0, 1]), ("not", NO_KEYS)), [], price), price)
            self.assertEqual(least_cost(Diagram([3, 2], all_up([0, 1]), ("in", 0, [(2, 2)])), [(0, 0), (1, 1)], price),
                             price)

    def test_four_hundred_keys(self):
        keys = [(at, 0) for at in range(400)]
        diagram = Diagram([400, 3], all_up([0, 1]), ("in", 0, [(0, 0), (10, 10), (13, 13), (399, 399)]))
        # Behind each of these values but the last one a key with another second value needs the next row, too.
        self.assertEqual(len(needed_answers(diagram, keys)), 8)
        self.assertEqual([least_cost(diagram, keys, price) for price in (0, 1, 2, 3, 10, 1000)],
                         [0, 8, 2 + 1 + 2 + 1 + 2 + 1 + 2 + 1, 3 + 1 + 3 + 1 + 2 + 1 + 3 + 1,
                          10 + 1 + 9 + 1 + 2 + 1 + 10 + 1, 1400])

    def test_prices(self):
        for price in (-1, -2, -SIXTY, True, False):
            self.exactly(InvalidNumber, least_cost, example_diagram(), TABLE, price)
            self.exactly(InvalidNumber, least_cost, Diagram([10, 7, 100], all_up([0, 1, 2]), NO_KEYS), [], price)


class FirstAnswers(Base):
    def expected(self, line, condition, keys, key, many):
        """By the words: the needed answers of the filter without the keys before, up to the last wanted match."""
        kept = kept_on(line[line.index(key):], condition)
        needed = needed_on(line, keys, kept)
        found = [row for row in line if row in keys and row in kept]
        if many == 0:
            return []
        if many is None or len(found) < many:
            return needed
        return needed[:needed.index(found[many - 1]) + 1]

    def test_against_the_definition(self):
        for diagram, condition, line, keys in chosen(10, 160):
            for key in line[::3] + line[-1:]:
                for many in (0, 1, 2, 3, 8, None, SIXTY):
                    self.assertEqual(first_answers(diagram, keys, key, many),
                                     self.expected(line, condition, keys, key, many), (condition, keys, key, many))

    def test_from_the_first_key_on(self):
        for diagram, _, line, keys in chosen(12, 200):
            needed = needed_answers(diagram, keys)
            many = len(matches(diagram, keys))
            for more in (None, many + 1, SIXTY):
                self.assertEqual(first_answers(diagram, keys, line[0], more), needed)
            self.assertEqual(first_answers(diagram, keys, line[0], 0), [])
            if many:
                found = first_answers(diagram, keys, line[0], many)
                self.assertEqual(found, needed[:len(found)])
                self.assertEqual(found[-1], matches(diagram, keys)[-1])

    def test_known_ones(self):
        diagram = example_diagram()
        rows = [
            ((3, 0, 21), 1, [(3, 0, 21)]), ((3, 0, 22), 1, [(3, 1, 60), (3, 6, 30)]), ((3, 0, 22), 2,
             [(3, 1, 60), (3, 6, 30), (4, 0, 0)]), ((3, 1, 50), None, [(3, 6, 30), (4, 0, 0)]),
            ((3, 6, 31), 1, [(4, 0, 0)]), ((3, 6, 50), 1, []), ((9, 6, 99), None, []), ((9, 6, 99), 0, []),
            ((3, 2, 0), 1, [(3, 6, 30)]), ((3, 6, 30), 1, [(3, 6, 30)]), ((3, 6, 30), 2, [(3, 6, 30), (4, 0, 0)]),
        ]
        for key, many, expected in rows:
            self.assertEqual(first_answers(diagram, TABLE, key, many), expected)
        self.assertEqual(first_answers(diagram, TABLE[:4], (3, 6, 31), 1), [None])
        self.assertEqual(first_answers(diagram, TABLE[:4], (3, 6, 31), None), [None])
        self.assertEqual(first_answers(diagram, TABLE[:4], (3, 6, 30), 1), [(3, 6, 30)])
        self.assertEqual(first_answers(diagram, [], (0, 0, 0), 1), [None])

    def test_many(self):
        for many in (-1, -SIXTY, True, False, "1", "", [], [1], (1,), {}, (), TABLE, example_diagram()):
            self.exactly(InvalidNumber, first_answers, example_diagram(), TABLE, (0, 0, 0), many)
        for thing in odd_objects():
            if thing is not None and (isinstance(thing, bool) or not isinstance(thing, int) or thing < 0):
                self.exactly(InvalidNumber, first_answers, example_diagram(), TABLE, (0, 0, 0), thing)


class Batches(Base):
    def test_against_each_alone(self):
        choose = Chooser(71)
        for at in range(300):
            sizes = choose.one(SMALL)
            order = some_order(choose, len(sizes))
            line = line_of(sizes, order)
            keys = some_keys(choose, line, 8)
            conditions = [some_condition(choose, sizes, 1 + at % 4) for _ in range(1 + at % 8)]
            needed = [needed_on(line, keys, kept_on(line, condition)) for condition in conditions]
            together = {answer for answers in needed for answer in answers}
            found = batch([Diagram(sizes, order, condition) for condition in conditions], keys)
            self.assertEqual(found, (len(together), sum([len(answers) for answers in needed])))

    def test_known_ones(self):
        diagram = example_diagram()
        self.assertEqual(batch([diagram], TABLE), (4, 4))
        self.assertEqual(batch([diagram] * 8, TABLE), (4, 32))
        self.assertEqual(batch([diagram, ~diagram], TABLE), (6, 10))
        self.assertEqual(batch([diagram, ~diagram], []), (1, 2))
        none = Diagram([10, 7, 100], all_up([0, 1, 2]), NO_KEYS)
        self.assertEqual(batch([none], TABLE), (0, 0))
        self.assertEqual(batch([none, diagram, none], TABLE), (4, 4))

    def test_what_is_no_list_of_diagrams(self):
        one = example_diagram()
        other_order, other_sizes = example_diagram((0, 2, 1)), Diagram([10, 7, 99], all_up([0, 1, 2]), NO_KEYS)
        down = Diagram([10, 7, 100], [(0, True), (1, True), (2, False)], NO_KEYS)
        rows = [
            [], [one] * 9, (one,), (one, one), one, [[one]], [(one,)], {"a": one}, None, 0, True, "", [None],
            [one, None],
            [None, one], [one, 3], [one, [one]], [one, True], [one, "x"], [example()], [one, example()],
            [one, other_order], [other_order, one], [one, other_sizes], [one, one, one, other_sizes], [one, down],
            [one, Diagram([10, 7], all_up([0, 1]), NO_KEYS)],
        ]
        for diagrams in rows:
            self.exactly(InvalidBoxes, batch, diagrams, TABLE)
        for thing in odd_objects():
            if not (isinstance(thing, list) and len(thing) == 1 and isinstance(thing[0], Diagram)):
                self.exactly(InvalidBoxes, batch, thing, TABLE)


class NoTables(Base):
    """InvalidTable, for each function, at its place among the arguments."""

    def calls(self, diagram, keys):
        return [
            (matches, (diagram, keys)), (needed_answers, (diagram, keys)), (shows_enough, (diagram, keys, [])),
            (least_cost, (diagram, keys, 1)), (first_answers, (diagram, keys, (0, 0, 0), 1)),
            (batch, ([diagram], keys)),
            (lambda *rest: list(questions(*rest)), (diagram, keys)),
        ]

    def refused(self, keys):
        with self.subTest(keys=keys):
            for call, rest in self.calls(example_diagram(), keys):
                self.exactly(InvalidTable, call, *rest)

    def test_other_forms(self):
        rows = [
            tuple(TABLE), TABLE + TABLE[:1], [(0, 0, 0), (0, 0, 0)], TABLE + [(10, 0, 0)], TABLE + [(0, 7, 0)],
            TABLE + [(0, 0, 100)], TABLE + [(0, 0, -1)], TABLE + [(0, 0)], TABLE + [(0, 0, 0, 0)], TABLE + [()],
            TABLE + [[0, 0, 0]], TABLE + [(True, 0, 0)], TABLE + [(0, False, 0)], TABLE + [None], TABLE + [TABLE],
            [TABLE], {"a": TABLE}, None, 0, True, "", (), (3, 0, 21), [3, 0, 21], TABLE + ["key"],
            TABLE + [(0, 0, "0")],
            TABLE + [(0, 0, None)], TABLE + [(0, 0, (0,))], TABLE + [(0, 0, [0])], example(), [example()],
        ]
        for keys in rows:
            self.refused(keys)

    def test_any_object(self):
        for thing in odd_objects():
            if thing not in ([], [(0, 1, 2)]):
                self.refused(thing)
            self.refused([(0, 0, 0), thing])

    def test_400_and_401_keys(self):
        line = line_of([10, 7, 100], all_up([0, 1, 2]))
        for many in (399, 400):
            self.assertEqual(len(matches(Diagram([10, 7, 100], all_up([0, 1, 2]), ("not", NO_KEYS)), line[:many])),
                             many)
        for many in (401, 402, 4000):
            self.refused(line[:many])

    def test_before_later_arguments(self):
        diagram = example_diagram()
        for keys in (None, (), TABLE + TABLE[:1]):
            self.exactly(InvalidTable, least_cost, diagram, keys, -1)
            self.exactly(InvalidTable, first_answers, diagram, keys, None, -1)
            self.exactly(InvalidTable, first_answers, diagram, keys, (0, 0, 0), -1)
            self.exactly(InvalidTable, shows_enough, diagram, keys, None)
            self.exactly(InvalidBoxes, batch, [], keys)
        for key in (None, (3, 0), [3, 0, 20], (10, 0, 0), (True, 0, 0), (0, 0, 0, 0)):
            for many in (1, -1, None, True):
                self.exactly(InvalidKey, first_answers, diagram, TABLE, key, many)
        for thing in odd_objects():
            self.exactly(InvalidKey, first_answers, diagram, TABLE, thing, 1)

    def test_questions_at_the_first_step(self):
        for keys in (None, TABLE + TABLE[:1], [(0, 0)]):
            def first_step():
                for one in questions(example_diagram(), keys):
                    return one
            self.exactly(InvalidTable, first_step)


class HowTheyAreCalled(Base):
    """Point 2."""

    def test_by_name(self):
        diagram = example_diagram()
        self.assertEqual(matches(keys=TABLE, diagram=diagram), matches(diagram, TABLE))
        self.assertEqual(needed_answers(keys=TABLE, diagram=diagram), needed_answers(diagram, TABLE))
        self.assertEqual(list(questions(keys=TABLE, diagram=diagram)), list(questions(diagram, TABLE)))
        self.assertIs(shows_enough(thing=[], keys=TABLE, diagram=diagram), False)
        self.assertEqual(worst_table(diagram=diagram), worst_table(diagram))
        self.assertEqual(least_cost(price=3, keys=TABLE, diagram=diagram), 7)
        self.assertEqual(first_answers(many=1, key=(0, 0, 0), keys=TABLE, diagram=diagram), [(3, 0, 21)])
        self.assertEqual(batch(keys=TABLE, diagrams=[diagram]), (4, 4))
        self.exactly(InvalidTable, batch, keys=None, diagrams=[diagram])
        self.exactly(InvalidBoxes, batch, keys=None, diagrams=None)

    def test_nothing_is_modified(self):
        diagram, keys = example_diagram(), TABLE[::-1]
        thing, diagrams = [(3, 6, 31), (3, 0, 20)], [diagram, ~diagram]
        for _ in range(2):
            matches(diagram, keys)
            needed_answers(diagram, keys)
            list(questions(diagram, keys))
            shows_enough(diagram, keys, thing)
            least_cost(diagram, keys, 3)
            first_answers(diagram, keys, (0, 0, 0), 2)
            batch(diagrams, keys)
            self.assertEqual(keys, TABLE[::-1])
            self.assertEqual(thing, [(3, 6, 31), (3, 0, 20)])
            self.assertEqual(len(diagrams), 2)
            self.assertEqual(diagram, example_diagram())

    def test_new_lists_each_time(self):
        diagram = example_diagram()
        calls = (lambda: matches(diagram, TABLE), lambda: needed_answers(diagram, TABLE), lambda: worst_table(diagram),
                 lambda: first_answers(diagram, TABLE, (0, 0, 0), None),
                 lambda: first_answers(diagram, TABLE, (0, 0, 0), 0))
        for call in calls:
            first = call()
            kept = list(first)
            self.assertIsNot(call(), first)
            first.append(None)
            self.assertEqual(call(), kept)

    def test_a_list_that_is_changed_between_steps(self):
        keys = list(TABLE)
        found = []
        for one in questions(example_diagram(), keys):
            keys.clear()
            found.append(one)
        self.assertEqual(found, list(questions(example_diagram(), TABLE)))

    def test_they_are_defined_here(self):
        for one in (matches, needed_answers, questions, shows_enough, worst_table, least_cost, first_answers, batch):
            self.assertEqual(one.__module__, tables.__name__)


if __name__ == "__main__":
    unittest.main()
