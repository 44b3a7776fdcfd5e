"""Whether one order is best for several boxes, what stands against it, and which boxes go together."""

from scanranges.boxes import Box
from scanranges.checks import is_integer
from scanranges.errors import InvalidBoxes
from scanranges.orders import last_ones, least_order, needs_of, rules

MOST_BOXES = 8


def common_order(boxes):
    """The order up everywhere with the least list of columns that is best for each box, or None."""
    told = _rules_of_each(boxes)
    return least_order(needs_of(len(boxes[0].sets), told))


def stuck_set(boxes):
    """None if there is a common order, else a list of tuples (column, index, why) that shows that there is none."""
    told = _rules_of_each(boxes)
    columns = _stuck_columns(len(boxes[0].sets), told)
    if not columns:
        return None
    found = []
    for column in columns:
        reasons = []
        for index, one in enumerate(told):
            reasons.extend([(column, index, why) for why in _whys(one, column, columns)])
        found.append(reasons[0])
    return found


def shows_stuck_set(boxes, thing):
    """Whether any object is a list that shows that there is no common order."""
    told = _rules_of_each(boxes)
    if not isinstance(thing, list) or not thing or not all([_is_reason(len(told), one) for one in thing]):
        return False
    columns = [one[0] for one in thing]
    if columns != sorted(set(columns)):
        return False
    return all([why in _whys(told[index], column, columns) for column, index, why in thing])


def order_groups(boxes):
    """As few lists of indices of boxes as possible, the boxes of each with a common best order."""
    told = _rules_of_each(boxes)
    many = len(boxes[0].sets)
    parts = range(1, 1 << len(told))
    fitting = [group for group in parts if not _stuck_columns(many, [told[index] for index in _members(group)])]
    # For each part of the boxes its fewest groups: which ones go with the first box of the part is tried out.
    fewest = [[]]
    for part in parts:
        first = 1 << _members(part)[0]
        ways = [[group] + fewest[part - group] for group in fitting if (group & part) == group and group & first]
        fewest.append(min(ways, key=len))
    return [_members(group) for group in fewest[-1]]


def shows_order_groups(boxes, thing):
    """Whether any object parts the boxes into lists of indices, the boxes of each with a common best order."""
    told = _rules_of_each(boxes)
    if not isinstance(thing, list) or not all([_is_group(one) for one in thing]):
        return False
    indices = []
    for one in thing:
        indices.extend(one)
    if sorted(indices) != list(range(len(told))):
        return False
    many = len(boxes[0].sets)
    return not any([_stuck_columns(many, [told[index] for index in group]) for group in thing])


def _rules_of_each(boxes):
    if not _are_boxes(boxes):
        raise InvalidBoxes("boxes are a list of 1 to 8 boxes with the same sizes")
    return [rules(box) for box in boxes]


def _are_boxes(thing):
    if not isinstance(thing, list) or not 1 <= len(thing) <= MOST_BOXES:
        return False
    if not all([isinstance(one, Box) for one in thing]):
        return False
    return all([one.sizes == thing[0].sizes for one in thing])


def _stuck_columns(many, told):
    # The columns that are left when none can be taken from the back any more; by R4 any may be taken before.
    needs = needs_of(many, told)
    left = (1 << many) - 1
    free = last_ones(needs, left)
    while free:
        left -= 1 << free[0]
        free = last_ones(needs, left)
    return _members(left)


def _members(part):
    # Which bits a number has, ascending.
    return [at for at in range(part.bit_length()) if part & (1 << at)]


def _whys(told, column, columns):
    # What the rules of one box say of a column against standing behind all the other ones of these columns.
    pairs, clauses = told
    found = [behind for front, behind in pairs if front == column and behind in columns]
    for front, candidates in clauses:
        if front == column and all([behind in columns for behind in candidates]):
            found.append(candidates)
    return found


def _is_reason(many, thing):
    if not isinstance(thing, tuple) or len(thing) != 3:
        return False
    column, index, why = thing
    if not is_integer(column) or not is_integer(index) or not 0 <= index < many:
        return False
    # True equals 1, so a boolean must be told apart before anything is compared.
    return is_integer(why) or _are_integers(why)


def _is_group(thing):
    return _are_integers(thing) and len(thing) > 0


def _are_integers(thing):
    return isinstance(thing, list) and all([is_integer(one) for one in thing])
