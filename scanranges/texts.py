"""Texts of sets, orders and conditions: each value has exactly one."""

from scanranges.checks import GREATEST_SIZE, MOST_COLUMNS, MOST_LEVELS, MOST_SETS, MOST_STRETCHES
from scanranges.errors import InvalidText

MOST_DIGITS = 60


def write_set(stretches):
    """The text of the stretches of a set."""
    if not stretches:
        return "-"
    return ",".join([str(first) if first == last else f"{first}-{last}" for first, last in stretches])


def read_set(text):
    """The stretches that have a text."""
    stretches, place = _read_stretches(text)
    if place is not None:
        raise InvalidText(place)
    return stretches


def write_order(order):
    """The text of an order."""
    return " ".join([f"+{column}" if up else f"-{column}" for column, up in order])


def read_order(text):
    """The order that has a text."""
    words = text.split(" ")
    order = []
    columns = {}
    for place, word in enumerate(words):
        column = _read_column(word[1:])
        if word[:1] not in ("+", "-") or column is None or column in columns:
            raise InvalidText(place)
        columns[column] = True
        order.append((column, word[:1] == "+"))
    if sorted(columns) != list(range(len(words))):
        raise InvalidText(len(words))
    return order


def write_condition(condition):
    """The text of a condition."""
    if condition[0] == "in":
        return f"{condition[1]}:{write_set(condition[2])}"
    return " ".join([condition[0]] + [write_condition(part) for part in condition[1:]])


def read_condition(text):
    """The condition that has a text."""
    words = text.split(" ")
    steps = []
    # The levels on which a filter is still to begin, the next one last.
    levels, sets = [1], 0
    for place, word in enumerate(words):
        step = _read_step(word)
        if step is None or not levels or levels[-1] > MOST_LEVELS:
            raise InvalidText(place)
        level = levels.pop()
        levels.extend([level + 1] * _parts_of(step))
        sets += 1 if step[0] == "in" else 0
        if sets > MOST_SETS:
            raise InvalidText(place)
        steps.append(step)
    if levels:
        raise InvalidText(len(words))
    return _put_together(steps)


def is_number(word):
    """Whether a word is a number: one to sixty digits without leading zeros."""
    if not 1 <= len(word) <= MOST_DIGITS or not all([sign in "0123456789" for sign in word]):
        return False
    return word == "0" or word[0] != "0"


def _read_stretches(text):
    # The stretches of a text and None, or those before the first one that cannot stand and its place.
    if text == "-":
        return ([], None)
    stretches = []
    least = 0
    for place, part in enumerate(text.split(",")):
        stretch = _read_stretch(part)
        # What stands behind `-` cannot stand; of a text that only begins with it, that is the second part.
        if part == "-" and place == 0:
            return ([], 1)
        if stretch is None or stretch[0] < least or place >= MOST_STRETCHES:
            return (stretches, place)
        stretches.append(stretch)
        least = stretch[1] + 2
    return (stretches, None)


def _read_stretch(part):
    # The stretch that has a text, whatever stands before it, or None.
    first, sign, last = part.partition("-")
    if sign == "":
        last = first
    elif first == last:
        return None
    if not is_number(first) or not is_number(last):
        return None
    stretch = (int(first), int(last))
    return stretch if stretch[0] <= stretch[1] < GREATEST_SIZE else None


def _read_column(word):
    # The column from 0 to 7 that has a text, or None.
    if not is_number(word) or int(word) >= MOST_COLUMNS:
        return None
    return int(word)


def _read_step(word):
    # What a word of a condition says: a condition of the first kind, or a tuple of the word alone; None for others.
    if word in ("not", "and", "or"):
        return (word,)
    column, sign, text = word.partition(":")
    stretches, place = _read_stretches(text)
    if sign == "" or _read_column(column) is None or place is not None:
        return None
    return ("in", _read_column(column), stretches)


def _parts_of(step):
    # How many filters must follow a word.
    if step[0] == "in":
        return 0
    return 1 if step[0] == "not" else 2


def _put_together(steps):
    waiting = []
    for step in reversed(steps):
        if step[0] == "in":
            waiting.append(step)
        elif step[0] == "not":
            waiting.append(("not", waiting.pop()))
        else:
            first = waiting.pop()
            waiting.append((step[0], first, waiting.pop()))
    return waiting[0]
