"""What a table must be asked to learn its keys in a filter, and what that costs."""

from scanranges.checks import MOST_KEYS, are_keys, is_integer, is_key, is_many, is_table
from scanranges.diagrams import Diagram
from scanranges.errors import InvalidBoxes, InvalidKey, InvalidNumber, InvalidTable, TooMany
from scanranges.lines import along_line, line_values

MOST_DIAGRAMS = 8


def matches(diagram, keys):
    """The keys of a table in the filter, in the order of the line."""
    _check_table(diagram, keys)
    return matching(diagram, keys)


def needed_answers(diagram, keys):
    """The answers that are needed, in the order of the line: keys of the table, and None for the end."""
    _check_table(diagram, keys)
    return answers_behind(diagram, keys, 0)


def questions(diagram, keys):
    """Yields the tuples (asked key, answer) of the questions that are enough."""
    _check_table(diagram, keys)
    yield from questions_behind(diagram, keys, 0)


def shows_enough(diagram, keys, thing):
    """Whether any object is a list of keys that are enough to ask for."""
    _check_table(diagram, keys)
    sizes, order = diagram.sizes, diagram.order
    if not are_keys(sizes, thing):
        return False
    rows = along_line(sizes, order, keys)
    values = [line_values(sizes, order, row) for row in rows]
    learnt, at = 0, 0
    for asked in along_line(sizes, order, thing):
        if diagram.key_index(asked) > learnt:
            return False
        while at < len(rows) and values[at] < line_values(sizes, order, asked):
            at += 1
        learnt = max(learnt, _keys_up_to(diagram, rows[at]) if at < len(rows) else diagram.total)
    return learnt == diagram.total


def worst_table(diagram):
    """A list of keys, one from each gap, in the order of the line."""
    if diagram.range_total > MOST_KEYS + 1:
        raise TooMany("there are more than 401 ranges")
    if diagram.range_total < 2:
        return []
    others = ~diagram
    # The other keys before the first range are in no gap.
    ahead = 1 if others.key_index(diagram.nth_key(0)) > 0 else 0
    starts = [others.nth_range(ahead + index) for index in range(diagram.range_total - 1)]
    return [first for first, _ in starts]


def least_cost(diagram, keys, price):
    """The least cost of getting all needed answers by questions at a price and by steps that cost 1."""
    answers = needed_answers(diagram, keys)
    if not is_integer(price) or price < 0:
        raise InvalidNumber("a price is an integer from 0 on")
    if not answers:
        return 0
    places = {key: at for at, key in enumerate(along_line(diagram.sizes, diagram.order, keys))}
    reached = [places.get(answer, len(keys)) for answer in answers]
    return price + sum([min(price, later - sooner) for sooner, later in zip(reached, reached[1:])])


def first_answers(diagram, keys, key, many):
    """The needed answers to learn the first many matches from a key on."""
    _check_table(diagram, keys)
    if not is_key(diagram.sizes, key):
        raise InvalidKey("a key is a tuple with a value for each column")
    if not is_many(many):
        raise InvalidNumber("many is an integer from 0 on, or None for all matches")
    return first_answers_behind(diagram, keys, diagram.key_index(key), many)


def batch(diagrams, keys):
    """The tuple (together, alone): how many answers some diagrams need, shared and not shared."""
    if not _are_diagrams(diagrams):
        raise InvalidBoxes("diagrams are a list of 1 to 8 diagrams with the same sizes and the same order")
    _check_table(diagrams[0], keys)
    needed = {}
    alone = 0
    for diagram in diagrams:
        answers = answers_behind(diagram, keys, 0)
        alone += len(answers)
        for answer in answers:
            needed[answer] = True
    return (len(needed), alone)


# From here on the keys of a table are not checked, and nothing limits how many there are.


def matching(diagram, keys):
    """The keys in the filter, in the order of the line."""
    return along_line(diagram.sizes, diagram.order, [key for key in keys if key in diagram])


def questions_behind(diagram, keys, known):
    """Yields the questions of the filter without so many keys of it, the first ones."""
    for key in along_line(diagram.sizes, diagram.order, keys):
        reached = _keys_up_to(diagram, key)
        if reached > known:
            yield (diagram.nth_key(known), key)
            known = reached
    if known < diagram.total:
        yield (diagram.nth_key(known), None)


def answers_behind(diagram, keys, known):
    """The needed answers of the filter without so many keys of it, the first ones."""
    return [answer for _, answer in questions_behind(diagram, keys, known)]


def first_answers_behind(diagram, keys, known, many):
    """The needed answers up to the match with the index many - 1, of the filter without so many keys of it."""
    answers = answers_behind(diagram, keys, known)
    if many is None:
        return answers
    found = []
    left = many
    for answer in answers:
        if left == 0:
            return found
        found.append(answer)
        if answer in diagram:
            left -= 1
    return found


def _keys_up_to(diagram, key):
    return diagram.key_index(key) + (1 if key in diagram else 0)


def _check_table(diagram, keys):
    if not is_table(diagram.sizes, keys):
        raise InvalidTable("the keys of a table are a list of 0 to 400 different keys")


def _are_diagrams(thing):
    if not isinstance(thing, list) or not 1 <= len(thing) <= MOST_DIAGRAMS:
        return False
    if not all([isinstance(one, Diagram) for one in thing]):
        return False
    return all([one.sizes == thing[0].sizes and one.order == thing[0].order for one in thing])
