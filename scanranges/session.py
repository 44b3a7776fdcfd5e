"""Sessions: lines of text that make a store, change it and ask it."""

from scanranges.checks import are_sizes
from scanranges.diagrams import Diagram
from scanranges.errors import InvalidNumber, InvalidSizes, ScanError
from scanranges.stores import Store
from scanranges.tables import answers_behind
from scanranges.texts import is_number, read_condition, read_order

DONE = "ok"
UNKNOWN = "?"


def session(rows):
    """The answers to the lines of a string, one line for each."""
    talk = Talk()
    return "\n".join([talk.told(line) for line in rows.split("\n")])


class Talk:
    """What the lines of a session have made so far."""

    def __init__(self):
        self._sizes = None
        self._orders = []
        self._store = None

    def told(self, line):
        """The answer to the next line."""
        words = line.split(" ")
        if "" in words:
            return UNKNOWN
        try:
            return self._answer(words[0], words[1:])
        except ScanError as error:
            return type(error).__name__

    def _answer(self, word, rest):
        if word == "sizes":
            return self._new_sizes(rest)
        if self._sizes is None:
            return UNKNOWN
        if word == "index":
            return self._new_index(rest)
        if self._store is None:
            return UNKNOWN
        if word == "put" or word == "take":
            return self._change_rows(word, rest)
        if word == "ranges" or word == "cost":
            return self._ask_index(word, rest)
        if word == "cheapest":
            return self._ask_all(rest)
        if word == "back":
            return self._go_back(rest)
        return self._single_word(word) if not rest else UNKNOWN

    def _new_sizes(self, rest):
        if not _are_numbers(rest):
            return UNKNOWN
        sizes = [int(word) for word in rest]
        if not are_sizes(sizes):
            raise InvalidSizes("there are no columns of these sizes")
        self._sizes = sizes
        self._orders = []
        self._store = None
        return DONE

    def _new_index(self, rest):
        if not rest:
            return UNKNOWN
        order = read_order(" ".join(rest))
        if self._store is None:
            self._store = Store(self._sizes, [order])
        else:
            self._store = self._store.with_order(order)
        self._orders.append(order)
        return DONE

    def _change_rows(self, word, rest):
        if not _are_numbers(rest):
            return UNKNOWN
        key = tuple([int(one) for one in rest])
        if word == "put":
            self._store.put(key)
        else:
            self._store.take(key)
        return DONE

    def _ask_index(self, word, rest):
        if len(rest) < 2 or not is_number(rest[0]):
            return UNKNOWN
        condition = read_condition(" ".join(rest[1:]))
        index = int(rest[0])
        if index >= len(self._orders):
            raise InvalidNumber("there is no such index")
        diagram = Diagram(self._sizes, self._orders[index], condition)
        if word == "ranges":
            return str(diagram.range_total)
        return str(len(answers_behind(diagram, self._store.listed(), 0)))

    def _ask_all(self, rest):
        if not rest:
            return UNKNOWN
        return str(self._store.cheapest(read_condition(" ".join(rest)), [], None))

    def _go_back(self, rest):
        if len(rest) != 1 or not is_number(rest[0]):
            return UNKNOWN
        self._store.undo_to(int(rest[0]))
        return DONE

    def _single_word(self, word):
        if word == "rows":
            return " ".join([_key_text(key) for key in self._store.listed()]) or "-"
        if word == "mark":
            return str(self._store.mark())
        if word == "undo":
            self._store.undo()
            return DONE
        return UNKNOWN


def _are_numbers(words):
    return len(words) > 0 and all([is_number(word) for word in words])


def _key_text(key):
    return ",".join([str(value) for value in key])
