"""Scripts by places: steps that change, drop and add single nodes of a forest."""

from graftbook.errors import InvalidPath, InvalidScript
from graftbook.forests import need_forests
from graftbook.kinds import is_number, is_word
from graftbook.paths import is_path, leads_to_node, row_below, spliced, tree_at
from graftbook.prices import change_cost, need_prices


def step_on(a, step):
    """The forest behind a step."""
    need_forests(a)
    _need_step(a, step)
    return _stepped(a, step)


def run_steps(a, steps):
    """The forest behind all steps."""
    return _forests_by(a, steps)[-1]


def steps_price(a, steps, prices):
    """What the steps cost together."""
    need_forests(a)
    need_prices(prices)
    forests = _forests_by(a, steps)
    return sum([_step_price(ahead, step, prices) for ahead, step in zip(forests, steps)])


def steps_back(a, steps):
    """The place script that undoes the steps, the last one first."""
    forests = _forests_by(a, steps)
    undoing = [_step_back(ahead, step) for ahead, step in zip(forests, steps)]
    return tuple(reversed(undoing))


def _forests_by(a, steps):
    """The forests on the way of the steps, the first and the last one included."""
    need_forests(a)
    forests = [a]
    for step in steps:
        forests.append(step_on(forests[-1], step))
    return forests


def is_step(value):
    """Whether a value has the form of a step, on whatever forest."""
    if not isinstance(value, tuple) or len(value) < 2 or not is_path(value[1]):
        return False
    if value[0] == "change":
        return len(value) == 3 and is_word(value[2])
    if value[0] == "drop":
        return len(value) == 2
    return value[0] == "add" and len(value) == 4 and is_number(value[2]) and is_word(value[3])


def _need_step(a, step):
    if not is_step(step):
        raise InvalidScript(step)
    if not _fits(a, step):
        raise InvalidPath(step[1])


def _fits(a, step):
    """Whether there is what a step is done to."""
    path = step[1]
    if step[0] != "add":
        return leads_to_node(a, path)
    above = path[:-1]
    if above != () and not leads_to_node(a, above):
        return False
    return path[-1] + step[2] <= len(row_below(a, above))


def _stepped(a, step):
    """The forest behind a step that fits."""
    path = step[1]
    if step[0] == "add":
        _, _, count, word = step
        start = path[-1]
        taken = row_below(a, path[:-1])[start:start + count]
        return spliced(a, path, count, ((word, taken),))
    _, children = tree_at(a, path)
    if step[0] == "drop":
        return spliced(a, path, 1, children)
    return spliced(a, path, 1, ((step[2], children),))


def _step_price(a, step, prices):
    """The price of a step on the forest ahead of it."""
    if step[0] == "drop":
        return prices[0]
    if step[0] == "add":
        return prices[1]
    word, _ = tree_at(a, step[1])
    return change_cost(prices, word, step[2])


def _step_back(a, step):
    """The step that undoes one on the forest ahead of it."""
    path = step[1]
    if step[0] == "add":
        return ("drop", path)
    word, children = tree_at(a, path)
    if step[0] == "drop":
        return ("add", path, len(children), word)
    return ("change", path, word)
