"""Whether the matches of a filter stand on the line as a wish asks for, and two keys that show that they do not."""

from scanranges.checks import is_wish
from scanranges.diagrams import Diagram
from scanranges.errors import InvalidWish
from scanranges.lines import line_key, line_values, turned_places


def is_sorted(diagram, wish):
    """Whether the matches of every table are ascending by the wish: "forwards", "backwards" or None."""
    _check_wish(diagram, wish)
    if _parted_values(diagram, wish) is None:
        return "forwards"
    if _parted_values(diagram, turned_places(wish)) is None:
        return "backwards"
    return None


def sorting_paper(diagram, wish):
    """None for "forwards", else two keys of the filter, the first one before the second and after it by the wish."""
    _check_wish(diagram, wish)
    found = _parted_values(diagram, wish)
    if found is None:
        return None
    sizes, order = diagram.sizes, diagram.order
    return (line_key(sizes, order, found[0]), line_key(sizes, order, found[1]))


def shows_sorting_paper(diagram, wish, thing):
    """Whether any object is a tuple of two such keys."""
    _check_wish(diagram, wish)
    if not isinstance(thing, tuple) or len(thing) != 2:
        return False
    first, second = thing
    if first not in diagram or second not in diagram:
        return False
    sizes, order = diagram.sizes, diagram.order
    if line_values(sizes, order, first) >= line_values(sizes, order, second):
        return False
    return rank_of(wish, first) > rank_of(wish, second)


def box_sorted(box, order, wish):
    """The same three answers as of is_sorted, for the keys of a box."""
    conditions = [("in", column, valueset.stretches) for column, valueset in enumerate(box.sets)]
    condition = conditions[0]
    for one in conditions[1:]:
        condition = ("and", condition, one)
    return is_sorted(Diagram(box.sizes, order, condition), wish)


def rank_of(wish, key):
    """A list of integers: a key with a lesser one stands before a key with a greater one by the wish."""
    return [key[column] if up else -key[column] for column, up in wish]


def _check_wish(diagram, wish):
    if not is_wish(len(diagram.sizes), wish):
        raise InvalidWish("a wish is a list of 0 to 16 tuples (column, up)")


# From here on a key is the list of its values along the line, from the column at a level on, and a wish is a list of
# tuples (place, sign): the place of a column on the line, and -1 if the wish goes against the line in it, else 1.


def _parted_values(diagram, wish):
    # Two keys of the filter that stand in this order on the line and the other way round by the wish, or None.
    levels = diagram.levels
    signs = _signs(diagram.order, wish)
    leasts = _leasts(levels, signs)
    greatests = _leasts(levels, [(place, -sign) for place, sign in signs])
    ways = {levels.root: []}
    for level, row in enumerate(levels.rows):
        further = {}
        for node, way in ways.items():
            found = _parted_in_node(row[node], leasts[level + 1], greatests[level + 1], signs, level)
            if found is not None:
                return (way + found[0], way + found[1])
            for first, _, child in row[node]:
                if child not in further:
                    further[child] = way + [first]
        ways = further
    return None


def _signs(order, wish):
    directions = dict(order)
    places = [column for column, _ in order]
    found = {}
    for column, up in wish:
        place = places.index(column)
        if place not in found:
            found[place] = 1 if up == directions[column] else -1
    return list(found.items())


def _leasts(levels, signs):
    # For each level, and behind the last one, of each node the least key by the wish, None where there is no key.
    below = [None, []]
    found = [below]
    for level in reversed(range(len(levels.rows))):
        below = [_least_of_node(node, below, signs, level) for node in levels.rows[level]]
        found.append(below)
    return found[::-1]


def _least_of_node(node, below, signs, level):
    # In a run the value of the column and what is behind it do not depend on each other, so each may be the least.
    backwards = (level, -1) in signs
    keys = [[last if backwards else first] + below[child] for first, last, child in node if below[child] is not None]
    asked = [(place, sign) for place, sign in signs if place >= level]
    return min(keys, key=lambda key: _signed(key, asked, level), default=None)


def _parted_in_node(node, leasts, greatests, signs, level):
    # Two such keys that differ in the column of this level. The columns before it on the line are the same, so what
    # is asked for before it by the wish stands behind it, where both keys are free.
    places = [place for place, _ in signs]
    ahead = signs[:places.index(level)] if level in places else signs
    asked = [(place, sign) for place, sign in ahead if place > level]
    opposed = (level, -1) in signs
    best = None
    for first, last, child in node:
        if leasts[child] is None:
            continue
        if best is not None and _breaks(best, [first] + leasts[child], asked, opposed, level):
            return (best, [first] + leasts[child])
        greatest = [first] + greatests[child]
        if best is None or _signed(greatest, asked, level) > _signed(best, asked, level):
            best = greatest
        if first < last and _breaks(best, [last] + leasts[child], asked, opposed, level):
            return (best, [last] + leasts[child])
    return None


def _breaks(first, second, asked, opposed, level):
    one, other = _signed(first, asked, level), _signed(second, asked, level)
    return one > other or (opposed and one == other)


def _signed(key, asked, level):
    return [sign * key[place - level] for place, sign in asked]
