"""Stores: a table with several indexes, what a filter costs in each, and what can be undone."""

from scanranges.checks import are_keys, are_sizes, is_integer, is_key, is_many, is_order, is_wish
from scanranges.diagrams import Diagram
from scanranges.errors import (AlreadyThere, InvalidKey, InvalidNumber, InvalidOrder, InvalidSizes, InvalidWish,
                               NotThere, NothingToUndo)
from scanranges.lines import along_line, turned_places
from scanranges.sorting import is_sorted, rank_of
from scanranges.tables import answers_behind, first_answers_behind, matching

MOST_ORDERS = 6


class Store:
    """A table with one index for each of some orders."""

    def __init__(self, sizes, orders):
        if not are_sizes(sizes):
            raise InvalidSizes("sizes are a list of 1 to 8 integers from 1 to 10 ** 30")
        if not _are_orders(len(sizes), orders):
            raise InvalidOrder("orders are a list of 1 to 6 orders of the columns")
        self._sizes = list(sizes)
        self._orders = [list(order) for order in orders]
        self._rows = {}
        # The calls that can be undone are tuples (whether it was put, key); a mark is how many there were before it.
        self._calls = []
        self._marks = []

    def __len__(self):
        return len(self._rows)

    def put(self, key):
        """Adds a row."""
        self._check_key(key)
        if key in self._rows:
            raise AlreadyThere("the row is there")
        self._rows[key] = True
        self._calls.append((True, key))

    def take(self, key):
        """Removes a row."""
        self._check_key(key)
        if key not in self._rows:
            raise NotThere("the row is not there")
        del self._rows[key]
        self._calls.append((False, key))

    def listed(self):
        """The keys of the rows, ascending by the first order."""
        return along_line(self._sizes, self._orders[0], list(self._rows))

    def costs(self, condition, wish, many):
        """For each index the tuple (side, questions, bound)."""
        diagrams = [Diagram(self._sizes, order, condition) for order in self._orders]
        self._check_wish(wish, many)
        return [self._cost(diagram, condition, wish, many) for diagram in diagrams]

    def cheapest(self, condition, wish, many):
        """The index with the fewest questions, of several the first."""
        asked = [many_questions for _, many_questions, _ in self.costs(condition, wish, many)]
        return asked.index(min(asked))

    def answer(self, condition, wish, many):
        """A list of many matches, ascending by the wish, before which no other match comes."""
        found = self._matches(condition, wish, many)
        return found if many is None else found[:many]

    def shows_answer(self, condition, wish, many, thing):
        """Whether any object is such a list."""
        found = self._matches(condition, wish, many)
        if not are_keys(self._sizes, thing) or len(set(thing)) != len(thing):
            return False
        if not all([key in found for key in thing]):
            return False
        first = found if many is None else found[:many]
        # In whatever way ties are broken, the ranks are those of the first matches.
        return [rank_of(wish, key) for key in thing] == [rank_of(wish, key) for key in first]

    def undo(self):
        """Undoes the last put or take."""
        if not self._calls:
            raise NothingToUndo("no put or take is left to undo")
        self._undo_last()
        self._marks = [mark for mark in self._marks if mark <= len(self._calls)]

    def mark(self):
        """The number of a new mark."""
        self._marks.append(len(self._calls))
        return len(self._marks) - 1

    def undo_to(self, index):
        """Undoes the calls behind a mark."""
        if not is_integer(index) or not 0 <= index < len(self._marks):
            raise InvalidNumber("there is no such mark")
        while len(self._calls) > self._marks[index]:
            self._undo_last()
        self._marks = self._marks[:index + 1]

    def twin(self):
        """An independent copy, marks included."""
        found = Store(self._sizes, self._orders)
        found._rows = {key: True for key in self._rows}
        found._calls = list(self._calls)
        found._marks = list(self._marks)
        return found

    def with_order(self, order):
        """A store of the same rows with one index more, in which nothing can be undone and no mark is left."""
        found = Store(self._sizes, self._orders + [order])
        found._rows = {key: True for key in self._rows}
        return found

    def _undo_last(self):
        was_put, key = self._calls.pop()
        if was_put:
            del self._rows[key]
        else:
            self._rows[key] = True

    def _check_key(self, key):
        if not is_key(self._sizes, key):
            raise InvalidKey("a key is a tuple with a value for each column")

    def _check_wish(self, wish, many):
        if not is_wish(len(self._sizes), wish):
            raise InvalidWish("a wish is a list of 0 to 16 tuples (column, up)")
        if not is_many(many):
            raise InvalidNumber("many is an integer from 0 on, or None for all matches")

    def _matches(self, condition, wish, many):
        # All matches, ascending by the wish; the line of the first order breaks ties.
        order = self._orders[0]
        diagram = Diagram(self._sizes, order, condition)
        self._check_wish(wish, many)
        rows = matching(diagram, list(self._rows))
        return [key for _, _, key in sorted([(rank_of(wish, key), at, key) for at, key in enumerate(rows)])]

    def _cost(self, diagram, condition, wish, many):
        side = is_sorted(diagram, wish)
        if many == 0:
            return (side, 0, 0)
        rows = list(self._rows)
        learnt = len(matching(diagram, rows))
        if side is None:
            return (side, len(answers_behind(diagram, rows, 0)), learnt + diagram.range_total)
        if many is not None:
            learnt = min(many, learnt)
        line = diagram
        if side == "backwards":
            line = Diagram(self._sizes, turned_places(diagram.order), condition)
        return (side, len(first_answers_behind(line, rows, 0, many)), learnt + diagram.range_total)


def _are_orders(many, thing):
    if not isinstance(thing, list) or not 1 <= len(thing) <= MOST_ORDERS:
        return False
    return all([is_order(many, order) for order in thing])
